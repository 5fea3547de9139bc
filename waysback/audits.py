"""Audits by texts alone, of ways alike and unlike, of merges, odds and middles.

Each tells the first that is wrong in its texts, None if nothing is, and raises nothing.
"""

from waysback.beginnings import is_beginning
from waysback.events import last_of, pairs_at_odds
from waysback.goings import put_behind, turned_back
from waysback.middles import is_between
from waysback.movetexts import moves_fault, steps_led
from waysback.papertexts import first_told, ways_read, wrong_moves, wrong_way_text, wrong_word
from waysback.stocks import bare_way, stock_from


def audit_alike(book, way, other, moves):
    """What is wrong in texts by which moves lead from way to other."""
    wrong = wrong_way_text(book, [way, other])
    if wrong is not None:
        return wrong
    mine, theirs = ways_read(book, [way, other])
    wrong = wrong_word([theirs], mine.word(), 2)
    if wrong is not None:
        return wrong
    return wrong_moves(mine, 3, moves, theirs)


def wrong_bare(ways, texts):
    """What is wrong in texts of moves, told as 3 and 4, as such that lead ways to unlike bare ways."""
    ends = []
    for index, (way, text) in enumerate(zip(ways, texts)):
        fault = moves_fault(way, text)
        if fault is not None:
            return ("text", 3 + index, fault)
        row = steps_led(way, text)
        if bare_way(way.book(), way.word(), row).steps() != row:
            return ("bare", 3 + index)
        ends.append(row)
    return ("same", 4) if ends[0] == ends[1] else None


def audit_unlike(book, way, other, first, second):
    """What is wrong in texts by which moves lead way and other to unlike bare ways."""
    wrong = wrong_way_text(book, [way, other])
    if wrong is not None:
        return wrong
    mine, theirs = ways_read(book, [way, other])
    wrong = wrong_word([theirs], mine.word(), 2)
    if wrong is not None:
        return wrong
    return wrong_bare([mine, theirs], [first, second])


def audit_merge(book, base, line, other, way):
    """What is wrong in texts by which way is alike to what line and other are merged to."""
    texts = [base, line, other, way]
    wrong = wrong_way_text(book, texts)
    if wrong is not None:
        return wrong
    start, mine, theirs, told = ways_read(book, texts)
    wrong = wrong_word([mine, theirs, told], start.word(), 2)
    if wrong is not None:
        return wrong
    for which, first, second, inner in ((2, start, told, mine), (3, start, told, theirs), (4, mine, theirs, told)):
        if not is_between(first, second, inner):
            return ("away", which)
    return None


def wrong_odds(changes, given):
    """What is wrong in given, told as 4 and 5, as events of these changes that are at odds."""
    stock = stock_from(given[0])
    lasts = [last_of(stock, stock.lot_of(event.steps())) for event in given]
    for index, last in enumerate(lasts):
        if last is None:
            return ("event", 4 + index)
    for index, event in enumerate(given):
        if not is_beginning(event, changes[index]):
            return ("away", 4 + index)
    return ("same", 5) if pairs_at_odds(stock, lasts[:1], lasts[1:]) == [] else None


def audit_odds(book, base, line, other, first, second):
    """What is wrong in texts by which events of line's and of other's change are at odds."""
    texts = [base, line, other, first, second]
    wrong = wrong_way_text(book, texts)
    if wrong is not None:
        return wrong
    start, mine, theirs, event, mate = ways_read(book, texts)
    wrong = first_told([wrong_word([mine, theirs], start.word(), 2), wrong_word([event, mate], start.end(), 4)])
    if wrong is not None:
        return wrong
    back = turned_back(start)
    return wrong_odds([put_behind(back, mine), put_behind(back, theirs)], [event, mate])


def audit_middle(book, way, other, third, inner):
    """What is wrong in texts by which inner is alike to the middle of way, other and third."""
    texts = [way, other, third, inner]
    wrong = wrong_way_text(book, texts)
    if wrong is not None:
        return wrong
    mine, theirs, last, told = ways_read(book, texts)
    wrong = wrong_word([theirs, last, told], mine.word(), 2)
    if wrong is not None:
        return wrong
    for which, first, second in (((1, 2), mine, theirs), ((1, 3), mine, last), ((2, 3), theirs, last)):
        if not is_between(first, second, told):
            return ("away", which[0], which[1])
    return None
