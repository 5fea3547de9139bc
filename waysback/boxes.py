"""Boxes of pictures: (rule, turn, taken, given), and the order that does the leftmost first."""

from waysback.wiring import wires


def way_boxes(way):
    """The list of the boxes of way's steps, with way's own numbers of wires."""
    return [
        (step[1], step[2], taken, given)
        for step, (taken, given) in zip(way.steps(), wires(way))
    ]


def leftmost_order(many, boxes):
    """The list of the pairs (place, index of a box) by which boxes are done, leftmost first.

    They are done on the wires from 0 on of a word of so many letters. No wire is given
    twice, or taken twice. Boxes that cannot be done are not among them.
    """
    row = list(range(many))
    starts = {box[2][0]: index for index, box in enumerate(boxes)}
    longest = max([len(box[2]) for box in boxes], default=0)
    order = []
    place = 0
    while place < len(row):
        index = starts.get(row[place])
        if index is not None and stands(row, place, boxes[index][2]):
            row[place:place + len(boxes[index][2])] = boxes[index][3]
            order.append((place, index))
            # A box that can be done only now takes one of the new wires.
            place = max(0, place + 1 - longest)
        else:
            place += 1
    return order


def stands(row, place, taken):
    """Whether the wires taken stand in row side by side from place on."""
    return row[place:place + len(taken)] == taken


def steps_of(order, boxes):
    """The list of the steps by which boxes are done in this order."""
    return [(place, boxes[index][0], boxes[index][1]) for place, index in order]
