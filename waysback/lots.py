"""Finite lots: their words, the squares of steps apart in them, and how many cubes of each kind there are."""

from waysback.doing import steps_on
from waysback.finite import need_lot


def lot(book, word, most):
    """The list of all words to which ways lead from word, by the fewest steps, then ascending."""
    return need_lot(book, word, most).words()


def squares_of(rules, found):
    """The list of the squares of a lot by these rules."""
    told = []
    for word in found.words():
        steps = found.steps_of(word)
        for _, place, rule in steps:
            stop = place + len(rules[rule][0])
            told.extend([(word, place, rule, at, other) for _, at, other in steps if at >= stop])
    return told


def squares(book, word, most):
    """The list of the rows (u, place, rule, place, rule), of two steps on a word that are apart."""
    found = need_lot(book, word, most)
    return squares_of(book.rules(), found)


def added(first, second):
    """Two lists of numbers, added one by one."""
    longer, other = (first, second) if len(first) > len(second) else (second, first)
    return [many + (other[at] if at < len(other) else 0) for at, many in enumerate(longer)]


def cubes_on(rules, word):
    """The list that has for each k how many lots of k steps on, each two apart, can be done on word."""
    # How many steps there are from each place, by where their left sides end.
    stops = [{} for _ in word]
    for place, rule, turn in steps_on(rules, word):
        if turn == "on":
            stop = place + len(rules[rule][0])
            stops[place][stop] = stops[place].get(stop, 0) + 1
    # What can be done from each place on, from the right.
    ahead = {len(word): [1]}
    for place in reversed(range(len(word))):
        counts = ahead[place + 1]
        for stop, many in stops[place].items():
            counts = added(counts, [0] + [many * count for count in ahead[stop]])
        ahead[place] = counts
    return ahead[0]


def cubes(book, word, most):
    """The list whose number k is how many pairs there are of a word and k of its steps apart."""
    found = need_lot(book, word, most)
    told = []
    for one in found.words():
        told = added(told, cubes_on(book.rules(), one))
    return told
