"""Merges of what one way has become by several hands, and boxes struck out with all behind them."""

from waysback.doing import all_back
from waysback.errors import BadIndex, BadLines
from waysback.events import lots_at_odds
from waysback.joins import union
from waysback.stocks import Stock, bare_way, stock_from
from waysback.ways import is_way_from, need_way
from waysback.words import is_number, is_row


def need_lines(base, lines):
    """Raises BadLines for the first thing that is no way of an equal book from base's word."""
    if not is_row(lines):
        raise BadLines(0)
    for index, line in enumerate(lines):
        if not is_way_from(line, base.book(), base.word()):
            raise BadLines(index)


def first_odds(stock, lots):
    """The least (k, l, i, j) with the first pair at odds of the lots k and l; None if none are."""
    for first in range(len(lots)):
        for second in range(first + 1, len(lots)):
            odds = lots_at_odds(stock, lots[first], lots[second])
            if odds != []:
                return first, second, odds[0][0], odds[0][1]
    return None


def merged(base, lines):
    """("way", R) with what all lines together make of base, or what of them is at odds."""
    need_way(base)
    need_lines(base, lines)
    back = all_back(base.steps())
    stock = Stock(base.book(), base.end())
    changes = [stock.lot_of(back + line.steps()) for line in lines]
    odds = first_odds(stock, changes)
    if odds is not None:
        return ("odds", odds[0], odds[1], odds[2], odds[3])
    change = {}
    for lot in changes:
        change = union(change, lot)
    steps = base.steps() + stock.way_of(change).steps()
    return ("way", bare_way(base.book(), base.word(), steps))


def struck_out(way, index):
    """The pair (kept, gone): all boxes that do not hang on this one, and what leads on to way."""
    need_way(way)
    stock = stock_from(way)
    lot = stock.lot_of(way.steps())
    if not is_number(index) or index >= len(lot):
        raise BadIndex(index)
    number = stock.in_order(lot)[index]
    kept = stock.way_of({other: True for other in lot if number not in stock.closed([other])})
    steps = all_back(kept.steps()) + way.steps()
    return kept, bare_way(way.book(), kept.end(), steps)
