"""What hangs on what in a way, and the orders in which its steps can be done."""

from waysback.boxes import way_boxes
from waysback.errors import BadNumber, BadOrder
from waysback.ways import Way
from waysback.wiring import wires
from waysback.words import is_number, is_row

# A lot of steps is kept as an integer: the bit of each step's index is 1 if it is in the lot.


def hung_lots(way):
    """The list that has, for each step, the lot of the steps that it hangs on."""
    giver = {}
    lots = []
    for index, (taken, given) in enumerate(wires(way)):
        lot = 0
        for wire in taken:
            if wire in giver:
                lot = lot | lots[giver[wire]] | (1 << giver[wire])
        lots.append(lot)
        for wire in given:
            giver[wire] = index
    return lots


def steps_in(lot, many):
    """The list of the indexes of the steps in lot, ascending, of so many."""
    return [index for index in range(many) if (lot >> index) & 1]


def hangs(way):
    """The list that has, for each step, the list of the steps that it hangs on."""
    return [steps_in(lot, index) for index, lot in enumerate(hung_lots(way))]


def next_steps(lots, ahead):
    """The list of the steps that can be done next when those of the lot ahead are done."""
    return [
        index for index, lot in enumerate(lots)
        if lot & ahead == lot and not (ahead >> index) & 1
    ]


def first_lots(lots):
    """The list of all lots that can be done first, each behind those that lie in it."""
    found = [0]
    known = {0: True}
    at = 0
    while at < len(found):
        for index in next_steps(lots, found[at]):
            more = found[at] | (1 << index)
            if more not in known:
                known[more] = True
                found.append(more)
        at += 1
    return found


def counts_behind(lots):
    """The dict that has, for each lot that can be done first, in how many orders the rest can."""
    counts = {}
    for ahead in reversed(first_lots(lots)):
        behind = [counts[ahead | (1 << index)] for index in next_steps(lots, ahead)]
        # Behind all steps there is the one order of none.
        counts[ahead] = max(1, sum(behind))
    return counts


def orders_count(way):
    """How many orders way has."""
    return counts_behind(hung_lots(way))[0]


def step_by_number(lots, counts, ahead, number):
    """The next step of the order of this number behind the lot ahead, and what number is left."""
    choices = next_steps(lots, ahead)
    counted = [counts[ahead | (1 << index)] for index in choices]
    left = number
    at = 0
    while left >= counted[at]:
        left -= counted[at]
        at += 1
    return choices[at], left


def order_at(way, number):
    """The order of this number of all orders ascending."""
    lots = hung_lots(way)
    counts = counts_behind(lots)
    if not is_number(number) or number >= counts[0]:
        raise BadNumber(number)
    order = []
    ahead = 0
    left = number
    for _ in lots:
        index, left = step_by_number(lots, counts, ahead, left)
        order.append(index)
        ahead = ahead | (1 << index)
    return order


def need_order(lots, thing):
    """Raises BadOrder for an object that is no order of steps that hang on these lots."""
    if not is_row(thing) or len(thing) != len(lots):
        raise BadOrder(thing)
    ahead = 0
    for index in thing:
        if not is_number(index) or index not in next_steps(lots, ahead):
            raise BadOrder(thing)
        ahead = ahead | (1 << index)


def order_number(way, order):
    """The number of this order of all orders ascending."""
    lots = hung_lots(way)
    need_order(lots, order)
    counts = counts_behind(lots)
    number = 0
    ahead = 0
    for index in order:
        for other in next_steps(lots, ahead):
            if other < index:
                number += counts[ahead | (1 << other)]
        ahead = ahead | (1 << index)
    return number


def reordered(way, order):
    """The way that does the steps in this order."""
    need_order(hung_lots(way), order)
    boxes = way_boxes(way)
    row = list(range(len(way.word())))
    steps = []
    for index in order:
        rule, turn, taken, given = boxes[index]
        place = row.index(taken[0])
        row[place:place + len(taken)] = given
        steps.append((place, rule, turn))
    return Way(way.book(), way.word(), steps)
