"""Roots of rounds: what done several times is a given round."""

from math import gcd

from waysback.arounds import Around, items_of, laid_on, turns_of, way_between
from waysback.carrying import all_beside
from waysback.doing import all_back
from waysback.errors import BadNumber
from waysback.rounds import power
from waysback.stocks import bare_way
from waysback.straights import straight
from waysback.ways import Way, need_round
from waysback.words import is_number


def least_turn(around, starts):
    """What each box of around is turned to by the least turn, done so many times as starts are a copy."""
    many = len(around.way().steps())
    turns = [laid_on(around, start, around, starts[0]) for start in starts]
    # A copy moves all boxes on, together, by as many copies as there are boxes, the least turn by
    # so much the less. A turn that is so, but for whole copies, is it but for these.
    surplus = [sum([copy for _, copy in turn.values()]) - many // len(starts) for turn in turns]
    least = [at for at, more in enumerate(surplus) if more % many == 0][0]
    whole = surplus[least] // many
    return {box: (mate, copy - whole) for box, (mate, copy) in turns[least].items()}


def part_root(core):
    """The pair (r, n) of a straight round of one part: r done n times is it, n its turns."""
    around = Around(core)
    starts = around.least()[1]
    return way_between(around, around, least_turn(around, starts)), len(starts)


def rooted(item):
    """("word", u) of the round of an item of a straight round, or ("root", r, n) of that of a part."""
    if item.steps() == []:
        return ("word", item.word())
    r, turns = part_root(item)
    return ("root", r, turns)


def rooted_items(core):
    """The list of the items of a straight round, from left to right, each with its root."""
    return [rooted(item) for _, _, item in items_of(core)]


def turns_around(core):
    """The greatest number that divides the turns of all parts of a straight round, 0 if there is no part."""
    divisor = 0
    for _, _, item in items_of(core):
        divisor = gcd(divisor, turns_of(item))
    return divisor


def root_number(way):
    """The number that root tells of a round."""
    return turns_around(straight(way)[1])


def carried_back(way, carrier, rounds):
    """The bare round at way's word that carrier carries to these rounds, put side by side."""
    there = carrier.steps()
    steps = there + all_beside(way.book(), rounds).steps() + all_back(there)
    return bare_way(way.book(), way.word(), steps)


def root_in(way, carrier, core, number):
    """The bare round that done number times is alike to way, number dividing all turns of its straight round."""
    rounds = []
    for item in rooted_items(core):
        if item[0] == "word":
            rounds.append(Way(way.book(), item[1], []))
        else:
            rounds.append(power(item[1], item[2] // number))
    return carried_back(way, carrier, rounds)


def root(way):
    """The pair (r, n): the bare round that done n times is alike to way, n as great as it can be."""
    need_round(way)
    carrier, core = straight(way)
    number = turns_around(core)
    return root_in(way, carrier, core, max(1, number)), number


def nth_root(way, number):
    """The bare round that done number times is alike to way, None if there is none."""
    need_round(way)
    if not is_number(number) or number == 0:
        raise BadNumber(number)
    carrier, core = straight(way)
    if turns_around(core) % number != 0:
        return None
    return root_in(way, carrier, core, number)
