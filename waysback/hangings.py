"""What hangs on what in a way, and the orders in which its steps can be done."""

from waysback.boxes import way_boxes
from waysback.errors import BadNumber, BadOrder
from waysback.orders import Orders, steps_in
from waysback.ways import Way
from waysback.wiring import wires
from waysback.words import is_number, is_row


def hung_lots(way):
    """The list that has, for each step, the lot of the steps that it hangs on.

    A lot is an integer in which the bit of each of its steps' indexes is 1.
    """
    giver = {}
    lots = []
    for index, (taken, given) in enumerate(wires(way)):
        lot = 0
        for wire in taken:
            if wire in giver:
                lot = lot | lots[giver[wire]] | (1 << giver[wire])
        lots.append(lot)
        for wire in given:
            giver[wire] = index
    return lots


def hangs(way):
    """The list that has, for each step, the list of the steps that it hangs on."""
    return [steps_in(lot, index) for index, lot in enumerate(hung_lots(way))]


def orders_count(way):
    """How many orders way has."""
    return Orders(hung_lots(way)).how_many()


def order_at(way, number):
    """The order of this number of all orders ascending."""
    lots = hung_lots(way)
    orders = Orders(lots)
    whole = orders.how_many()
    if not is_number(number) or number >= whole:
        raise BadNumber(number)
    told = []
    done = 0
    left = number
    for _ in lots:
        for index, counted in orders.by_first(done, whole):
            if left < counted:
                break
            left -= counted
        told.append(index)
        whole = counted
        done = done | (1 << index)
    return told


def need_order(lots, thing):
    """Raises BadOrder for an object that is no order of steps that hang on these lots."""
    if not is_row(thing) or len(thing) != len(lots):
        raise BadOrder(thing)
    ahead = 0
    for index in thing:
        if not is_number(index) or index >= len(lots):
            raise BadOrder(thing)
        if (ahead >> index) & 1 or lots[index] & ~ahead != 0:
            raise BadOrder(thing)
        ahead = ahead | (1 << index)


def order_number(way, order):
    """The number of this order of all orders ascending."""
    lots = hung_lots(way)
    need_order(lots, order)
    orders = Orders(lots)
    whole = orders.how_many()
    number = 0
    done = 0
    for index in order:
        counts = dict(orders.by_first(done, whole))
        number += sum([counts[other] for other in counts if other < index])
        whole = counts[index]
        done = done | (1 << index)
    return number


def reordered(way, order):
    """The way that does the steps in this order."""
    need_order(hung_lots(way), order)
    boxes = way_boxes(way)
    row = list(range(len(way.word())))
    steps = []
    for index in order:
        rule, turn, taken, given = boxes[index]
        place = row.index(taken[0])
        row[place:place + len(taken)] = given
        steps.append((place, rule, turn))
    return Way(way.book(), way.word(), steps)
