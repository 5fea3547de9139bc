"""Ways: a word and steps, each done on the word behind those ahead."""

from waysback.books import need_book
from waysback.doing import can_do, word_behind
from waysback.errors import BadIndex, BadOther, BadSteps, BadWay, NotRound
from waysback.words import is_number, is_row, need_word


class Way:
    """A word of a book and a list of steps from it; it never changes."""

    def __init__(self, book, word, steps):
        need_book(book)
        need_word(word)
        if not is_row(steps):
            raise BadSteps(0)
        rules = book.rules()
        words = [word]
        for index, step in enumerate(steps):
            if not can_do(rules, words[index], step):
                raise BadSteps(index)
            words.append(word_behind(rules, words[index], step))
        # A Book never changes, so the one that is passed can be kept as it is.
        self._book = book
        self._word = word
        self._words = words
        self._steps = [tuple(step) for step in steps]

    def __eq__(self, other):
        return (
            isinstance(other, Way)
            and self._word == other._word
            and self._book == other._book
            and self._steps == other._steps
        )

    def book(self):
        """The Book of the way."""
        return self._book

    def word(self):
        """The word from which the way leads."""
        return self._word

    def steps(self):
        """The list of the steps."""
        return list(self._steps)

    def end(self):
        """The word to which the way leads."""
        return self._words[-1]

    def words(self):
        """The list of all words along the way."""
        return list(self._words)


def need_way(thing):
    """Raises BadWay for an object that is no Way."""
    if not isinstance(thing, Way):
        raise BadWay(thing)


def need_round(thing):
    """Raises BadWay for an object that is no Way, NotRound for one that leads to another word."""
    need_way(thing)
    if thing.end() != thing.word():
        raise NotRound(thing.end())


def is_way_from(thing, book, word):
    """Whether any object is a Way of a book equal to book, from word."""
    return isinstance(thing, Way) and thing.word() == word and thing.book() == book


def need_other_at(way, thing, word):
    """Raises BadOther for an object that is no Way of a book equal to way's, from word."""
    if not is_way_from(thing, way.book(), word):
        raise BadOther(thing)


def need_other(way, thing):
    """Raises BadOther for an object that is no Way of an equal book from way's word."""
    need_other_at(way, thing, way.word())


def need_index(way, thing):
    """Raises BadIndex for an object that is no number up to how many steps way has."""
    if not is_number(thing) or thing > len(way.steps()):
        raise BadIndex(thing)
