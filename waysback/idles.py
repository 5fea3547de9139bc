"""Idle pairs, struck until the bare picture is left."""

from waysback.boxes import leftmost_order, steps_of, way_boxes
from waysback.errors import BadPair
from waysback.stocks import bare_way
from waysback.ways import Way, need_way
from waysback.words import is_number, is_row


def pairs_idle(boxes):
    """The list of the pairs of indexes of boxes of which the second undoes the first, ascending."""
    givers = {}
    told = []
    for index, (rule, turn, taken, given) in enumerate(boxes):
        first = givers.get(taken[0])
        if first is not None:
            box = boxes[first]
            if box[0] == rule and box[1] != turn and box[3] == taken:
                told.append((first, index))
        for wire in given:
            givers[wire] = index
    return sorted(told)


def idle_pairs(way):
    """The list of the idle pairs of way, ascending."""
    need_way(way)
    return pairs_idle(way_boxes(way))


def need_pair(boxes, thing):
    """The idle pair of boxes that thing is; BadPair for any object that is none."""
    if not is_row(thing) or len(thing) != 2 or not is_number(thing[0]) or not is_number(thing[1]):
        raise BadPair(thing)
    pair = (thing[0], thing[1])
    if pair not in pairs_idle(boxes):
        raise BadPair(thing)
    return pair


def struck(way, pair):
    """The way, in the leftmost order, of the picture without the boxes of this idle pair."""
    need_way(way)
    boxes = way_boxes(way)
    first, second = need_pair(boxes, pair)
    before = dict(zip(boxes[second][3], boxes[first][2]))
    left = [
        (rule, turn, [before.get(wire, wire) for wire in taken], given)
        for index, (rule, turn, taken, given) in enumerate(boxes)
        if index not in (first, second)
    ]
    order = leftmost_order(len(way.word()), left)
    return Way(way.book(), way.word(), steps_of(order, left))


def bare(way):
    """The way, in the leftmost order, that is left when idle pairs are struck till there is none."""
    need_way(way)
    return bare_way(way.book(), way.word(), way.steps())


def is_bare(way):
    """Whether way has no idle pair."""
    return idle_pairs(way) == []
