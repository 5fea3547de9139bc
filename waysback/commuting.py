"""What commutes with a round: a number for each part of its ring, and a round at each word beside."""

from math import gcd

from waysback.arounds import items_of, turns_of
from waysback.boxes import way_boxes
from waysback.errors import BadForm, NotRound
from waysback.pieces import piece_from, roots_of
from waysback.roots import carried_back, rooted_items
from waysback.rounds import power
from waysback.stocks import stock_from
from waysback.straights import carried_by, straight
from waysback.ways import is_way_from, need_other, need_round
from waysback.words import is_integer, is_row


def need_two_rounds(way, other):
    """Raises what is due for what are not two rounds at one word."""
    need_round(way)
    need_other(way, other)
    if other.end() != other.word():
        raise NotRound(other.end())


def do_commute(way, other):
    """Whether two rounds at one word do."""
    stock = stock_from(way)
    return stock.lot_of(way.steps() + other.steps()) == stock.lot_of(other.steps() + way.steps())


def commute(way, other):
    """Whether way, then other, and other, then way, are alike."""
    need_two_rounds(way, other)
    return do_commute(way, other)


def commuting(way):
    """A pair (x, items): x carries way to a straight round, with whose items all that commutes is told."""
    need_round(way)
    carrier, core = straight(way)
    return carrier, rooted_items(core)


def times_done(core, turns, other):
    """How many times the root of a straight round of one part is done by other, which is a power of it."""
    stock = stock_from(core)
    lot = stock.lot_of(other.steps() * turns)
    # Done so often it is a power of the straight round itself, in which nothing is idle.
    number = len(lot) // len(core.steps())
    if lot == stock.lot_of(core.steps() * number):
        return number
    return -number


def form_told(items, other):
    """The list, item by item of a straight round, of what a bare round that commutes with it is there."""
    boxes = way_boxes(other)
    first = roots_of(len(other.word()), boxes)
    told = []
    for start, stop, item in items:
        own = [box for box in boxes if start <= first[box[2][0]] < stop]
        piece = piece_from(other, start, stop, own)
        turns = turns_of(item)
        told.append(piece if turns == 0 else times_done(item, turns, piece))
    return told


def items_and_form(way, other):
    """The items of a straight round to which way is carried, and the form of other, which commutes."""
    carrier, core = straight(way)
    items = items_of(core)
    return items, form_told(items, carried_by(other, carrier.steps()))


def commuting_form(way, other):
    """The form of other: what it is at each item of commuting(way); None if they don't commute."""
    need_two_rounds(way, other)
    if not do_commute(way, other):
        return None
    return items_and_form(way, other)[1]


def fits_item(way, item, thing):
    """Whether any object is what a form may have for an item of commuting(way)."""
    if item[0] == "root":
        return is_integer(thing)
    return is_way_from(thing, way.book(), item[1]) and thing.end() == item[1]


def of_form(way, form):
    """The bare round at way's word that has this form."""
    need_round(way)
    carrier, core = straight(way)
    items = rooted_items(core)
    if not is_row(form) or len(form) != len(items):
        raise BadForm(form)
    if not all([fits_item(way, item, thing) for item, thing in zip(items, form)]):
        raise BadForm(form)
    rounds = [thing if item[0] == "word" else power(item[1], thing) for item, thing in zip(items, form)]
    return carried_back(way, carrier, rounds)


def common_power(way, other):
    """The pair (m, n): n is the least from 1 on such that other n times is way m times; None if none is."""
    need_two_rounds(way, other)
    if not do_commute(way, other):
        return None
    items, form = items_and_form(way, other)
    numbers = []
    for (_, _, item), thing in zip(items, form):
        turns = turns_of(item)
        if turns != 0:
            numbers.append((thing, turns))
        elif thing.steps() != []:
            return None
    if numbers == [] or any([many * numbers[0][1] != numbers[0][0] * turns for many, turns in numbers]):
        return None
    many, turns = numbers[0]
    if many == 0:
        return None
    divisor = gcd(many, turns)
    return many // divisor, turns // divisor
