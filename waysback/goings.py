"""What is done with steps and ways: done, turned back, put together, cut."""

from waysback.books import need_book
from waysback.doing import all_back, can_do, steps_on, word_behind
from waysback.errors import BadOther, BadStep
from waysback.ways import Way, need_index, need_other_at, need_way
from waysback.words import need_word


def steps_at(book, word):
    """The list of all steps that can be done on word, ascending."""
    need_book(book)
    need_word(word)
    return steps_on(book.rules(), word)


def done(book, word, step):
    """The word behind step."""
    need_book(book)
    need_word(word)
    rules = book.rules()
    if not can_do(rules, word, step):
        raise BadStep(step)
    return word_behind(rules, word, step)


def turned_back(way):
    """The way from way's end to its word."""
    need_way(way)
    return Way(way.book(), way.end(), all_back(way.steps()))


def put_behind(way, other):
    """The way that goes way and then other, which is from way's end."""
    need_way(way)
    need_other_at(way, other, way.end())
    return Way(way.book(), way.word(), way.steps() + other.steps())


def put_beside(way, other):
    """The way from both words, one behind the other: way's steps, then other's."""
    need_way(way)
    if not isinstance(other, Way) or other.book() != way.book():
        raise BadOther(other)
    aside = len(way.end())
    steps = [(place + aside, rule, turn) for place, rule, turn in other.steps()]
    return Way(way.book(), way.word() + other.word(), way.steps() + steps)


def cut_at(way, index):
    """The pair of the ways of the first index steps, and of the others."""
    need_way(way)
    need_index(way, index)
    steps = way.steps()
    first = Way(way.book(), way.word(), steps[:index])
    return first, Way(way.book(), first.end(), steps[index:])
