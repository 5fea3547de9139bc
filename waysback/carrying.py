"""Ways that carry one round into another, and what is wrong in any object as such."""

from waysback.arounds import Around, items_of, laid_on, way_between
from waysback.doing import all_back
from waysback.goings import put_beside
from waysback.rings import are_apart, need_other_round, ring_of, words_in
from waysback.stocks import bare_way, stock_from
from waysback.straights import straight
from waysback.ways import Way, need_round


def shortened(core, way):
    """What has the fewest steps of the bare way and what comes of doing core more often ahead of it."""
    told = way
    for steps in (core.steps(), all_back(core.steps())):
        more = bare_way(core.book(), core.word(), steps + told.steps())
        while len(more.steps()) < len(told.steps()):
            told = more
            more = bare_way(core.book(), core.word(), steps + told.steps())
    return told


def part_carried(core, other):
    """A way that carries one straight round of one part to another one with the same telling."""
    around, beside = Around(core), Around(other)
    laid = laid_on(around, around.least()[1][0], beside, beside.least()[1][0])
    return shortened(core, way_between(around, beside, laid))


def all_beside(book, ways):
    """Ways of book put side by side, from left to right."""
    told = Way(book, "", [])
    for way in ways:
        told = put_beside(told, way)
    return told


def core_carried(core, other):
    """A way that carries one straight round to another one with the same ring."""
    ways = []
    for (_, _, item), (_, _, mate) in zip(items_of(core), items_of(other)):
        ways.append(item if item.steps() == [] else part_carried(item, mate))
    return all_beside(core.book(), ways)


def conjugate(way, other):
    """("way", x) with a way that carries way to other, ("unlike",), or ("words", what it hangs on)."""
    need_round(way)
    need_other_round(way, other)
    there, core = straight(way)
    aside, mate = straight(other)
    mine, theirs = ring_of(core), ring_of(mate)
    if are_apart(mine, theirs):
        return ("unlike",)
    unlike = [pair for pair in zip(words_in(mine), words_in(theirs)) if pair[0] != pair[1]]
    if unlike != []:
        return ("words", unlike)
    steps = there.steps() + core_carried(core, mate).steps() + all_back(aside.steps())
    return ("way", bare_way(way.book(), way.word(), steps))


def carrying_wrong(way, other, thing):
    """The first that is wrong in any object as a way that carries way to other, None if nothing is."""
    need_round(way)
    need_other_round(way, other)
    if not isinstance(thing, Way) or thing.book() != way.book():
        return ("form",)
    if thing.word() != way.word() or thing.end() != other.word():
        return ("ends",)
    stock = stock_from(way)
    if stock.lot_of(way.steps() + thing.steps()) != stock.lot_of(thing.steps() + other.steps()):
        return ("unlike",)
    return None
