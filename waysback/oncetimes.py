"""Steps done at once: the times at which each can be done, and what each time does."""

from waysback.boxes import way_boxes
from waysback.hangings import hung_lots
from waysback.orders import steps_in


def earliest(way):
    """The list of the steps' times if each is done as early as it can be."""
    times = []
    for index, lot in enumerate(hung_lots(way)):
        ahead = [times[other] for other in steps_in(lot, index)]
        times.append(1 + max(ahead, default=-1))
    return times


def latest(way):
    """The list of the steps' times if each is done as late as it can be."""
    times = earliest(way)
    greatest = max(times, default=0)
    lots = hung_lots(way)
    for index in reversed(range(len(lots))):
        behind = [times[other] for other in range(index, len(lots)) if (lots[other] >> index) & 1]
        times[index] = min(behind, default=greatest + 1) - 1
    return times


def at_once(way):
    """The list that has, for each time, the list of the steps done then, ascending."""
    times = earliest(way)
    boxes = way_boxes(way)
    row = list(range(len(way.word())))
    told = []
    for time in range(1 + max(times, default=-1)):
        places = sorted([(row.index(boxes[k][2][0]), k) for k in range(len(times)) if times[k] == time])
        told.append([(place, boxes[k][0], boxes[k][1]) for place, k in places])
        # From the right, so that no place is moved ahead of its turn.
        for place, k in reversed(places):
            row[place:place + len(boxes[k][2])] = boxes[k][3]
    return told
