"""Beginnings of bare pictures: of both of two, counted, and by number."""

from waysback.errors import BadNumber
from waysback.roads import Roads
from waysback.stocks import stock_from, two_lots
from waysback.ways import need_way
from waysback.words import is_number


def is_beginning(way, other):
    """Whether way's bare picture is a beginning of other's."""
    _, mine, theirs = two_lots(way, other)
    return all([number in theirs for number in mine])


def common(way, other):
    """The way of all boxes that both bare pictures have."""
    stock, mine, theirs = two_lots(way, other)
    return stock.way_of({number: True for number in mine if number in theirs})


def roads_of(way, stock):
    """The roads of way's bare picture, its wires numbered as in stock."""
    lot = stock.lot_of(way.steps())
    return Roads(len(way.word()), [stock.box(number) for number in sorted(lot)])


def beginnings_count(way):
    """How many beginnings way's bare picture has."""
    need_way(way)
    return roads_of(way, stock_from(way)).how_many()


def beginning_at(way, number):
    """The beginning of this number, 0 being no steps."""
    need_way(way)
    stock = stock_from(way)
    roads = roads_of(way, stock)
    if not is_number(number) or number >= roads.how_many():
        raise BadNumber(number)
    givers = [stock.giver(wire) for wire in roads.road(number)]
    # What stands in the row hangs, all in all, on all that is done.
    return stock.way_of(stock.closed([giver for giver in givers if giver is not None]))
