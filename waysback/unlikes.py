"""Papers by which ways are unlike: moves that lead them to unlike bare ways."""

from waysback.leading import led_bare
from waysback.stocks import bare_way
from waysback.trails import Trail, first_unmoved
from waysback.ways import need_other, need_way
from waysback.words import is_row


def unlike_paper(way, other):
    """A pair of lists of moves that lead both ways to unlike bare ways, None if they are alike."""
    need_way(way)
    need_other(way, other)
    mine, first = led_bare(way)
    theirs, second = led_bare(other)
    if mine == theirs:
        return None
    return [move for move, _ in first], [move for move, _ in second]


def unlike_wrong(way, other, thing):
    """The first that is wrong in any object as such a pair, None if nothing is."""
    need_way(way)
    need_other(way, other)
    if not is_row(thing) or len(thing) != 2 or not is_row(thing[0]) or not is_row(thing[1]):
        return ("form",)
    ends = []
    for which, begun in ((0, way), (1, other)):
        trail = Trail(begun)
        index = first_unmoved(trail, thing[which])
        if index is not None:
            return ("move", which, index)
        if bare_way(way.book(), way.word(), trail.row()).steps() != trail.row():
            return ("bare", which)
        ends.append(trail.row())
    if ends[0] == ends[1]:
        return ("same",)
    return None
