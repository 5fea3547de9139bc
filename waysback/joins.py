"""The least on which two bare pictures both go on."""

from waysback.events import lots_at_odds
from waysback.stocks import two_lots


def union(mine, theirs):
    """The lot of what either lot has."""
    return {number: True for number in list(mine) + list(theirs)}


def joined(way, other):
    """("way", way) with the least common going-on of both, or the first pair at odds."""
    stock, mine, theirs = two_lots(way, other)
    odds = lots_at_odds(stock, mine, theirs)
    if odds != []:
        return ("odds", odds[0][0], odds[0][1])
    return ("way", stock.way_of(union(mine, theirs)))
