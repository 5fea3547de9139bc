"""Rounds: ways that lead from a word to it; carried along ways, and done several times."""

from waysback.doing import all_back
from waysback.errors import BadNumber
from waysback.stocks import bare_way, stock_from
from waysback.straights import Strip, carried_by, straight
from waysback.ways import Way, need_other, need_round
from waysback.words import is_integer


def is_round(thing):
    """Whether any object is a way that leads from a word to it."""
    return isinstance(thing, Way) and thing.end() == thing.word()


def no_steps(book, word):
    """The way of no steps."""
    return Way(book, word, [])


def carried(way, other):
    """The round at other's end that is other gone back, way, other, made bare."""
    need_round(way)
    need_other(way, other)
    return carried_by(way, other.steps())


def need_power(way, number):
    """Raises what is due if way is no round, or number no integer."""
    need_round(way)
    if not is_integer(number):
        raise BadNumber(number)


def power(way, number):
    """The round way done number times, made bare; below 0 gone back done so often."""
    need_power(way, number)
    # Made bare first, so that what is idle is not done again and again.
    steps = bare_way(way.book(), way.word(), way.steps()).steps()
    if number < 0:
        steps = all_back(steps)
    return bare_way(way.book(), way.word(), steps * abs(number))


def copies_settled(carrier, steps, still):
    """How many copies of steps it takes behind carrier till all wires but the still ones are theirs.

    Steps are those of a straight round, on or back, and still the letters that stand still in it.
    """
    stock = stock_from(carrier)
    row, lot = stock.gone_on(list(range(len(carrier.word()))), {}, carrier.steps())
    # What no box gives is a letter of the word, and so no wire of theirs either.
    older = {None: True}
    for number in lot:
        older[number] = True
    copies = 0
    while any([stock.giver(row[place]) in older for place in range(len(row)) if place not in still]):
        row, lot = stock.gone_on(row, lot, steps)
        copies += 1
    return copies


def power_steps(way, number):
    """The number of steps of power(way, number)."""
    need_power(way, number)
    carrier, core = straight(way)
    steps = core.steps()
    there = carrier.steps()
    still = Strip(core).circles()
    # Between what is settled on both sides the copies of a straight round strike nothing, and what
    # they part meets in the letters alone that stand still, so more copies are just so many steps more.
    ahead = copies_settled(carrier, steps, still)
    many = min(abs(number), ahead + copies_settled(carrier, all_back(steps), still))
    lot = stock_from(way).lot_of(there + steps * many + all_back(there))
    return len(lot) + (abs(number) - many) * len(steps)
