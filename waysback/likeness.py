"""Whether ways are alike, and how far they are from one another."""

from waysback.stocks import stock_from, two_lots
from waysback.ways import need_way


def alike(way, other):
    """Whether moves lead from way to other."""
    _, mine, theirs = two_lots(way, other)
    return mine == theirs


def fewest(way):
    """The number of steps of the bare way that is alike to way."""
    need_way(way)
    return len(stock_from(way).lot_of(way.steps()))


def distance(way, other):
    """With how many steps more, and no fewer, way comes to a way alike to other."""
    _, mine, theirs = two_lots(way, other)
    # What only one of both has is just what stands in way gone back, then other, made bare.
    alone = [number for number in mine if number not in theirs]
    return len(alone) + len([number for number in theirs if number not in mine])
