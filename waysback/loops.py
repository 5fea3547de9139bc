"""Loops: the steps of a finite lot beside its tree, and rounds spelled by them."""

from waysback.doing import all_back
from waysback.errors import BadIndex, BadSpelling
from waysback.finite import Lot, need_lot, need_most
from waysback.lots import squares_of
from waysback.stocks import bare_way
from waysback.ways import Way, need_round
from waysback.words import TURNS, is_number, is_row


def loops(book, word, most):
    """The list of the lot's steps (u, place, rule) that are not in the tree, in the lot's order."""
    return need_lot(book, word, most).loops()


def steps_around(found, loop):
    """The list of the steps of the round of a loop."""
    word, place, rule = loop
    return found.tree_way(word) + [(place, rule, "on")] + all_back(found.tree_way(found.behind(loop)))


def loop_round(book, word, number, most):
    """The round of the loop of this number: a tree way, the loop, a tree way gone back."""
    found = need_lot(book, word, most)
    rows = found.loops()
    if not is_number(number) or number >= len(rows):
        raise BadIndex(number)
    return Way(book, word, steps_around(found, rows[number]))


def short(spelling):
    """The short spelling to which a spelling comes."""
    told = []
    for number, turn in spelling:
        if told != [] and told[-1][0] == number and told[-1][1] != turn:
            told.pop()
        else:
            told.append((number, turn))
    return told


def spelled(way, most):
    """The short spelling of the round way: the loops along which it goes, and their turns."""
    need_round(way)
    need_most(most)
    found = Lot(way.book(), way.word(), most)
    numbers = {loop: number for number, loop in enumerate(found.loops())}
    told = []
    for word, step in zip(way.words(), way.steps()):
        loop = found.along(word, step)
        if loop in numbers:
            told.append((numbers[loop], step[2]))
    return short(told)


def need_spelling(many, spelling):
    """Raises BadSpelling for the first thing that is no pair (number of one of many loops, turn)."""
    if not is_row(spelling):
        raise BadSpelling(0)
    for index, thing in enumerate(spelling):
        if not is_row(thing) or len(thing) != 2 or not is_number(thing[0]) or thing[0] >= many:
            raise BadSpelling(index)
        if thing[1] not in TURNS:
            raise BadSpelling(index)


def round_of(book, word, spelling, most):
    """The bare round alike to the rounds of these loops, on or back, one behind the other."""
    found = need_lot(book, word, most)
    rows = found.loops()
    need_spelling(len(rows), spelling)
    steps = []
    for number, turn in short(spelling):
        there = steps_around(found, rows[number])
        steps.extend(there if turn == "on" else all_back(there))
    return bare_way(book, word, steps)


def spelled_on(first, second):
    """The short spelling of two steps on, by the numbers of their loops, None for a step in the tree."""
    return [(number, "on") for number in (first, second) if number is not None]


def square_roads(book, word, most):
    """The list, square by square, of the pairs of the short spellings of both roads across it."""
    found = need_lot(book, word, most)
    rules = book.rules()
    numbers = {loop: number for number, loop in enumerate(found.loops())}
    behind = {step: found.behind(step) for step in found.steps()}
    told = []
    for one, place, rule, at, other in squares_of(rules, found):
        left, right = rules[rule]
        first, second = (one, place, rule), (one, at, other)
        moved = (behind[first], at - len(left) + len(right), other)
        stayed = (behind[second], place, rule)
        ahead = spelled_on(numbers.get(first), numbers.get(moved))
        told.append((ahead, spelled_on(numbers.get(second), numbers.get(stayed))))
    return told
