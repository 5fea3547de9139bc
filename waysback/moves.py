"""Moves of ways: one done, those that lead from way to way, and what is wrong in such."""

from waysback.errors import BadMove
from waysback.leading import led_bare
from waysback.trails import Trail, first_unmoved
from waysback.ways import Way, need_other, need_way
from waysback.words import is_row


def moved(way, move):
    """The way behind this move of way."""
    need_way(way)
    trail = Trail(way)
    if not trail.do(move):
        raise BadMove(move)
    return Way(way.book(), way.word(), trail.row())


def moves(way, other):
    """A list of moves that lead from way to a way equal to other, None if they are not alike."""
    need_way(way)
    need_other(way, other)
    mine, down = led_bare(way)
    theirs, up = led_bare(other)
    if mine != theirs:
        return None
    # What both do alike at their ends need not be done, and undone.
    same = 0
    while same < min(len(down), len(up)) and down[-1 - same] == up[-1 - same]:
        same += 1
    first = [move for move, _ in down[:len(down) - same]]
    return first + [undoing for _, undoing in reversed(up[:len(up) - same])]


def moves_wrong(way, other, thing):
    """The first that is wrong in any object as moves from way to other, None if nothing is."""
    need_way(way)
    need_other(way, other)
    if not is_row(thing):
        return ("form",)
    trail = Trail(way)
    index = first_unmoved(trail, thing)
    if index is not None:
        return ("move", index)
    if trail.row() != other.steps():
        return ("end",)
    return None
