"""Counts of steps by their kinds, and what they tell of the rounds of a finite lot."""

from waysback.doing import all_back
from waysback.errors import BadTable
from waysback.finite import Lot, need_lot, need_most
from waysback.kinds import Kinds
from waysback.ranks import rank_of
from waysback.stocks import bare_way
from waysback.ways import need_way
from waysback.words import is_integer, is_row


def sign_of(step):
    """1 for a step on, -1 for a step back."""
    return 1 if step[2] == "on" else -1


def counts(way, most):
    """The list of the rows (a, rule, b, number), ascending: steps on less steps back of each kind."""
    need_way(way)
    need_most(most)
    kinds = Kinds(way.book(), len(Lot(way.book(), way.word(), most).words()))
    numbers = {}
    for word, step in zip(way.words(), way.steps()):
        kind = kinds.of_step(word, step)
        numbers[kind] = numbers.get(kind, 0) + sign_of(step)
    return sorted([(a, rule, b, many) for (a, rule, b), many in numbers.items() if many != 0])


def step_kinds(kinds, found):
    """The dict that has True for each kind of the steps of a lot."""
    return {kinds.of_step(word, (place, rule, "on")): True for word, place, rule in found.steps()}


def numbered(rows):
    """Dicts with the same keys, each key as a number of its own."""
    numbers = {}
    told = []
    for row in rows:
        for key in row:
            numbers.setdefault(key, len(numbers))
        told.append({numbers[one]: many for one, many in row.items()})
    return told


def rank(book, word, most):
    """The greatest number of rounds at word whose counts hang on one another in no way."""
    found = need_lot(book, word, most)
    kinds = Kinds(book, most)
    known = list(step_kinds(kinds, found))
    return len(known) - rank_of(numbered([kinds.balance(kind) for kind in known]))


def need_table(known, numbers):
    """The dict of kinds and their numbers; BadTable for the first thing that is no such row."""
    if not is_row(numbers):
        raise BadTable(0)
    told = {}
    for index, thing in enumerate(numbers):
        if not is_row(thing) or len(thing) != 4:
            raise BadTable(index)
        a, rule, b, many = thing
        whole = is_integer(rule) and is_integer(many) and isinstance(a, str) and isinstance(b, str)
        if not whole or (a, rule, b) not in known or (a, rule, b) in told:
            raise BadTable(index)
        told[(a, rule, b)] = many
    return told


def is_balanced(kinds, table):
    """Whether of each kind of wires as many are given as taken."""
    total = {}
    for kind, many in table.items():
        for wire, each in kinds.balance(kind).items():
            total[wire] = total.get(wire, 0) + many * each
    return all([many == 0 for many in total.values()])


def chain_of(book, kinds, found, table):
    """The dict of the lot's steps and how often each is gone on, less back, by rounds of these counts.

    Of each kind the round goes a home way back, the step, and a home way.
    """
    chain = {}
    for (a, rule, b), many in table.items():
        left, right = book.rules()[rule]
        parts = [(1, (a + left + b, (len(a), rule, "on")))]
        parts.extend([(-1, pair) for pair in kinds.home(a + left + b)])
        parts.extend([(1, pair) for pair in kinds.home(a + right + b)])
        for one, (word, step) in parts:
            along = found.along(word, step)
            chain[along] = chain.get(along, 0) + many * one * sign_of(step)
    return chain


def leaving(found, chain):
    """The dict of each word and the list of the pairs (step, word behind) by which a chain goes on there."""
    told = {}
    for along, many in chain.items():
        word, place, rule = along
        behind = found.behind(along)
        if many > 0:
            told.setdefault(word, []).extend([((place, rule, "on"), behind)] * many)
        elif many < 0:
            told.setdefault(behind, []).extend([((place, rule, "back"), word)] * (-many))
    return told


def circuit(left, word):
    """The steps of a round at word along all that hangs together with it; takes them off what is left."""
    trail = [(word, None)]
    told = []
    while trail != []:
        onward = left.get(trail[-1][0], [])
        if onward != []:
            step, behind = onward.pop()
            trail.append((behind, step))
        else:
            # No way on from here: what is told from here on is gone last.
            told.append(trail.pop()[1])
    told.reverse()
    return told[1:]


def round_with(book, word, numbers, most):
    """A round at word whose counts are these numbers, None if there is none."""
    found = need_lot(book, word, most)
    kinds = Kinds(book, most)
    table = need_table(step_kinds(kinds, found), numbers)
    if not is_balanced(kinds, table):
        return None
    left = leaving(found, chain_of(book, kinds, found, table))
    steps = []
    for start in found.words():
        there = found.tree_way(start)
        if left.get(start, []) != []:
            steps.extend(there + circuit(left, start) + all_back(there))
    return bare_way(book, word, steps)
