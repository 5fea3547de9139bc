"""Sayings over rounds: what they say, whether two say alike, and words that say a given way."""

from waysback.doing import all_back
from waysback.errors import BadMost, BadRounds, BadSaying
from waysback.rounds import is_round, power
from waysback.stocks import bare_way, stock_from
from waysback.ways import is_way_from, need_other
from waysback.words import TURNS, is_integer, is_number, is_row

# Of how many sayings each kind of saying is put together, where it is of sayings alone.
PARTS = {"none": 0, "back": 1, "behind": 2, "carried": 2, "around": 2}


def need_rounds(rounds):
    """Raises BadRounds for the first thing that is no round, or not at the first one's word."""
    if not is_row(rounds) or len(rounds) == 0:
        raise BadRounds(0)
    for index, thing in enumerate(rounds):
        if not is_round(thing) or not is_way_from(thing, rounds[0].book(), rounds[0].word()):
            raise BadRounds(index)


def parts_of(many, thing):
    """The list of what a saying over so many rounds is put together of, None if it is no saying."""
    if is_number(thing) and thing < many:
        return []
    if not is_row(thing) or len(thing) == 0 or not isinstance(thing[0], str):
        return None
    if thing[0] == "times":
        return [thing[1]] if len(thing) == 3 and is_integer(thing[2]) else None
    if len(thing) - 1 != PARTS.get(thing[0]):
        return None
    return list(thing[1:])


def taken_apart(many, saying):
    """The list of the pairs (saying, indexes of its parts), a saying ahead of its parts.

    None if any of them is no saying over so many rounds.
    """
    found = [saying]
    told = []
    while len(told) < len(found):
        thing = found[len(told)]
        parts = parts_of(many, thing)
        if parts is None:
            return None
        told.append((thing, list(range(len(found), len(found) + len(parts)))))
        found.extend(parts)
    return told


def round_said(rounds, saying, parts):
    """The bare round of a saying whose parts say these rounds."""
    if is_number(saying):
        return power(rounds[saying], 1)
    kind = saying[0]
    if kind == "times":
        return power(parts[0], saying[2])
    there = [part.steps() for part in parts]
    steps = []
    if kind == "back":
        steps = all_back(there[0])
    elif kind == "behind":
        steps = there[0] + there[1]
    elif kind == "carried":
        steps = all_back(there[1]) + there[0] + there[1]
    elif kind == "around":
        steps = there[0] + there[1] + all_back(there[0]) + all_back(there[1])
    return bare_way(rounds[0].book(), rounds[0].word(), steps)


def said(rounds, saying):
    """The bare round that a saying says; BadSaying for any object that is none."""
    apart = taken_apart(len(rounds), saying)
    if apart is None:
        raise BadSaying(saying)
    values = {}
    for index, (thing, parts) in reversed(list(enumerate(apart))):
        values[index] = round_said(rounds, thing, [values[part] for part in parts])
    return values[0]


def value(rounds, saying):
    """The bare way, in the leftmost order, of what saying says."""
    need_rounds(rounds)
    return said(rounds, saying)


def holds(rounds, saying, second):
    """Whether two sayings say alike rounds."""
    need_rounds(rounds)
    return said(rounds, saying) == said(rounds, second)


def longer(stock, turns, standing):
    """All words of one part more than those standing, each with its row of wires and its lot."""
    told = []
    for word, row, lot in standing:
        for pair, steps in turns:
            if word == [] or word[-1][0] != pair[0] or word[-1][1] == pair[1]:
                further, more = stock.gone_on(row, lot, steps)
                told.append((word + [pair], further, more))
    return told


def words_for(rounds, other, most):
    """The list of all words over rounds, of at most so many parts, that are alike to other."""
    need_rounds(rounds)
    need_other(rounds[0], other)
    if not is_number(most):
        raise BadMost(most)
    stock = stock_from(rounds[0])
    wanted = stock.lot_of(other.steps())
    turns = []
    for index, thing in enumerate(rounds):
        for turn in TURNS:
            steps = thing.steps() if turn == "on" else all_back(thing.steps())
            turns.append(((index, turn), steps))
    standing = [([], list(range(len(other.word()))), {})]
    told = []
    for length in range(most + 1):
        told.extend([list(word) for word, _, lot in standing if lot == wanted])
        if length < most:
            standing = longer(stock, turns, standing)
    return told
