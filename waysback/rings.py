"""Rings: what goes around in straight rounds, item by item, and whether two rounds have the same."""

from waysback.arounds import Around, items_of
from waysback.errors import BadOther, NotRound, NotStraight
from waysback.straights import straight, strip_pairs
from waysback.ways import Way, need_round


def ring_of(core):
    """The list of the items of a straight round, from left to right."""
    told = []
    for _, _, item in items_of(core):
        if item.steps() == []:
            told.append(("word", item.word()))
        else:
            boxes, starts = Around(item).least()
            told.append(("part", boxes, len(starts)))
    return told


def ring(way):
    """The list of the items of the straight round way, from left to right."""
    pairs = strip_pairs(way)
    if pairs != []:
        raise NotStraight(pairs[0])
    return ring_of(way)


def parts_in(told):
    """The list of the parts of a ring, words left out."""
    return [item for item in told if item[0] == "part"]


def words_in(told):
    """The list of the words of circles ahead of, between and behind the parts of a ring."""
    words = [""]
    for item in told:
        if item[0] == "word":
            words[-1] = item[1]
        else:
            words.append("")
    return words


def are_apart(first, second):
    """Whether rings have not the same parts, or words of circles, in the same place, in one of them alone."""
    if parts_in(first) != parts_in(second):
        return True
    return any([(mine == "") != (theirs == "") for mine, theirs in zip(words_in(first), words_in(second))])


def need_other_round(way, thing):
    """Raises what is due for any object that is no round of a book equal to way's, at any word."""
    if not isinstance(thing, Way) or thing.book() != way.book():
        raise BadOther(thing)
    if thing.end() != thing.word():
        raise NotRound(thing.end())


def same_parts(way, other):
    """Whether the rings of straight rounds to which both are carried have the same parts."""
    need_round(way)
    need_other_round(way, other)
    return parts_in(ring_of(straight(way)[1])) == parts_in(ring_of(straight(other)[1]))
