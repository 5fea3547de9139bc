"""Walls: events as what parts the ways that have them from those that have not."""

from waysback.doing import all_back
from waysback.errors import BadWay
from waysback.events import events_of, last_of
from waysback.stocks import Stock, stock_from, two_lots
from waysback.ways import need_other, need_way


def need_event(thing):
    """The steps of the event that thing is, its last one last; BadWay for any object that is none."""
    need_way(thing)
    stock = stock_from(thing)
    lot = stock.lot_of(thing.steps())
    if last_of(stock, lot) is None:
        raise BadWay(thing)
    return stock.way_of(lot).steps()


def has_wall(way, other):
    """Whether other has the event way."""
    need_event(way)
    stock, mine, theirs = two_lots(way, other)
    return last_of(stock, mine) in theirs


def walls_between(way, other):
    """The pair of the lists of the events that way alone has, and that other alone has."""
    stock, mine, theirs = two_lots(way, other)
    own = [number for number in stock.in_order(mine) if number not in theirs]
    alien = [number for number in stock.in_order(theirs) if number not in mine]
    return events_of(stock, own), events_of(stock, alien)


def wall_from(way, other):
    """The event that has the same wall as the event way, from other's end."""
    steps = need_event(way)
    need_other(way, other)
    back = all_back(other.steps())
    stock = Stock(way.book(), other.end())
    with_it = stock.lot_of(back + steps)
    without = stock.lot_of(back + steps[:-1])
    # Both differ by the last box alone, seen from there.
    alone = [number for number in with_it if number not in without]
    alone.extend([number for number in without if number not in with_it])
    return stock.way_of(stock.closed(alone))
