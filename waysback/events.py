"""Events: bare pictures with a box that hangs on all others; which are at odds, and which make a way."""

from waysback.books import need_book
from waysback.errors import BadEvents
from waysback.stocks import Stock, stock_from, two_lots
from waysback.ways import is_way_from, need_way
from waysback.words import is_row, need_word


def events_of(stock, numbers):
    """The list of the events of boxes of stock."""
    return [stock.way_of(stock.closed([number])) for number in numbers]


def events(way):
    """The list of the events of the boxes of bare(way), in their order there."""
    need_way(way)
    stock = stock_from(way)
    return events_of(stock, stock.in_order(stock.lot_of(way.steps())))


def pairs_at_odds(stock, first, second):
    """The list of the pairs of indexes of boxes, not the same, that take a common wire, ascending."""
    takers = {}
    for index, number in enumerate(first):
        for wire in stock.box(number)[2]:
            takers.setdefault(wire, []).append(index)
    told = {}
    for other, number in enumerate(second):
        for wire in stock.box(number)[2]:
            for index in takers.get(wire, []):
                if first[index] != number:
                    told[(index, other)] = True
    return sorted(told)


def lots_at_odds(stock, mine, theirs):
    """What at_odds tells of the ways of two lots."""
    return pairs_at_odds(stock, stock.in_order(mine), stock.in_order(theirs))


def at_odds(way, other):
    """The list of the pairs (i, j), ascending, of boxes of both whose events are at odds."""
    stock, mine, theirs = two_lots(way, other)
    return lots_at_odds(stock, mine, theirs)


def last_of(stock, lot):
    """The number of the last box if the lot is that of an event, None if it is not."""
    # What hangs on a box has a greater number.
    last = max(list(lot), default=None)
    if last is None or len(stock.closed([last])) != len(lot):
        return None
    return last


def need_events(stock, book, word, given):
    """The lots of given, a list of events from word, and their last boxes; BadEvents if it is none."""
    if not is_row(given):
        raise BadEvents(0)
    lots = []
    lasts = []
    for index, thing in enumerate(given):
        if not is_way_from(thing, book, word):
            raise BadEvents(index)
        lots.append(stock.lot_of(thing.steps()))
        lasts.append(last_of(stock, lots[index]))
        if lasts[index] is None:
            raise BadEvents(index)
    return lots, lasts


def first_lacking(stock, lots, known):
    """The least pair (index of a lot, number of a box in its order) of a box not known, or None."""
    for index, lot in enumerate(lots):
        if any([number not in known for number in lot]):
            lacking = [at for at, number in enumerate(stock.in_order(lot)) if number not in known]
            return index, lacking[0]
    return None


def way_of_events(book, word, given):
    """("way", way) with the way of these events, or what it is that they are not those of a way."""
    need_book(book)
    need_word(word)
    stock = Stock(book, word)
    lots, lasts = need_events(stock, book, word, given)
    known = {number: True for number in lasts}
    lacking = first_lacking(stock, lots, known)
    if lacking is not None:
        return ("lacks", lacking[0], lacking[1])
    odds = [pair for pair in pairs_at_odds(stock, lasts, lasts) if pair[0] < pair[1]]
    if odds != []:
        return ("odds", odds[0][0], odds[0][1])
    return ("way", stock.way_of(known))
