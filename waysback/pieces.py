"""Pieces into which a way falls: side by side, and one below another."""

from waysback.boxes import leftmost_order, steps_of, way_boxes
from waysback.hangings import hung_lots
from waysback.ways import Way, need_way


def roots_of(many, boxes):
    """The dict of each wire with the first letter of its piece."""
    root = {wire: wire for wire in range(many)}
    members = {wire: [wire] for wire in range(many)}
    for _, _, taken, given in boxes:
        first = root[taken[0]]
        for wire in taken:
            other = root[wire]
            if other != first:
                for one in members[other]:
                    root[one] = first
                members[first].extend(list(members[other]))
        for wire in given:
            root[wire] = first
        members[first].extend(given)
    return root


def piece_from(way, start, stop, boxes):
    """The way of boxes, in the leftmost order, on the letters of way's word from start to stop."""
    many = len(way.word())
    moved = [
        (rule, turn, [wire - start if wire < many else wire for wire in taken], given)
        for rule, turn, taken, given in boxes
    ]
    order = leftmost_order(stop - start, moved)
    return Way(way.book(), way.word()[start:stop], steps_of(order, moved))


def pieces_beside(way):
    """The list of the ways, from left to right, into which way's picture falls."""
    need_way(way)
    many = len(way.word())
    boxes = way_boxes(way)
    root = roots_of(many, boxes)
    # The first letter of each piece is the wire by which it is told.
    starts = [wire for wire in range(many) if root[wire] == wire]
    told = []
    for start, stop in zip(starts, starts[1:] + [many]):
        own = [box for box in boxes if root[box[2][0]] == start]
        told.append(piece_from(way, start, stop, own))
    return told


def cuts_of(way):
    """The list of the indexes at which way is cut, ascending."""
    cuts = []
    # How many steps, from the first one on, all the steps from index on hang on.
    common = len(way.steps())
    for index, lot in reversed(list(enumerate(hung_lots(way)))):
        missing = ~lot
        common = min(common, (missing & -missing).bit_length() - 1)
        if 0 < index <= common:
            cuts.append(index)
    return sorted(cuts)


def pieces_below(way):
    """The list of the ways into which way is cut, one below another."""
    need_way(way)
    cuts = cuts_of(way)
    steps = way.steps()
    words = way.words()
    return [
        Way(way.book(), words[start], steps[start:stop])
        for start, stop in zip([0] + cuts, cuts + [len(steps)])
    ]
