"""Audits by texts alone, of rounds carried into one another, of rings that part them, of roots.

Each tells the first that is wrong in its texts, None if nothing is, and raises nothing.
"""

from waysback.goings import put_behind
from waysback.likeness import alike
from waysback.papertexts import first_told, ways_read, wrong_moves, wrong_text, wrong_way_text, wrong_word
from waysback.rings import are_apart, ring_of
from waysback.roots import turns_around
from waysback.rounds import carried, is_round, power
from waysback.straights import fewest_carried, is_straight
from waysback.waytexts import way_fault

FIGURES = "0123456789"

# So many figures the text of a number has at most.
LONGEST = 9


def wrong_round(ways):
    """("round", which) of the first of ways, numbered from 1 on, that does not lead to its word."""
    for index, way in enumerate(ways):
        if not is_round(way):
            return ("round", 1 + index)
    return None


def audit_carrying(book, way, other, carrier, moves):
    """What is wrong in texts by which carrier carries way to other."""
    texts = [way, other, carrier]
    wrong = wrong_way_text(book, texts)
    if wrong is not None:
        return wrong
    mine, theirs, there = ways_read(book, texts)
    wrong = first_told([wrong_round([mine, theirs]), wrong_word([there], mine.word(), 3)])
    if wrong is not None:
        return wrong
    if there.end() != theirs.word():
        return ("end", 3)
    return wrong_moves(put_behind(mine, there), 4, moves, put_behind(there, theirs))


def audit_rings(book, way, other, first, second):
    """What is wrong in texts by which first and second carry way and other to straight rounds of unlike rings."""
    texts = [way, other, first, second]
    wrong = wrong_way_text(book, texts)
    if wrong is not None:
        return wrong
    mine, theirs, there, aside = ways_read(book, texts)
    elsewhere = [wrong_word([there], mine.word(), 3), wrong_word([aside], theirs.word(), 4)]
    wrong = first_told([wrong_round([mine, theirs])] + elsewhere)
    if wrong is not None:
        return wrong
    cores = [carried(mine, there), carried(theirs, aside)]
    for index, core in enumerate(cores):
        if not is_straight(core):
            return ("straight", 3 + index)
    return None if are_apart(ring_of(cores[0]), ring_of(cores[1])) else ("same", 4)


def number_fault(_, text):
    """The index of the first sign that is wrong in any object as a text of a number from 1 on; or None."""
    if not isinstance(text, str):
        return -1
    for index, sign in enumerate(text):
        if index == LONGEST or sign not in FIGURES or (index == 0 and sign == "0"):
            return index
    return 0 if text == "" else None


def is_done(way, root, number):
    """Whether root done number times is alike to way."""
    # First told by the boxes alone, as it might be done so often that no steps could be told.
    return number * fewest_carried(root) == fewest_carried(way) and alike(power(root, number), way)


def wrong_root(way, root, number, carrier):
    """What is wrong in rounds at one word, and a carrier from there, as the root of way, done number times."""
    if not is_done(way, root, number):
        return ("end", 3)
    core = carried(root, carrier)
    if not is_straight(core):
        return ("straight", 4)
    return None if turns_around(core) == 1 else ("turns", 4)


def audit_root(book, way, root, number, carrier):
    """What is wrong in texts by which way has the root (root, number)."""
    wrong = wrong_text(book, [way_fault, way_fault, number_fault, way_fault], [way, root, number, carrier])
    if wrong is not None:
        return wrong
    mine, theirs, there = ways_read(book, [way, root, carrier])
    elsewhere = [wrong_word([theirs], mine.word(), 2), wrong_word([there], mine.word(), 4)]
    wrong = first_told([wrong_round([mine, theirs])] + elsewhere)
    if wrong is not None:
        return wrong
    return wrong_root(mine, theirs, int(number), there)
