"""Finite lots: all words to which ways lead from one, their steps, and the tree of ways there."""

from waysback.books import need_book
from waysback.doing import sides, steps_on, word_behind
from waysback.errors import BadMost, TooFar
from waysback.words import TURNS, is_number, need_word


def need_most(thing):
    """Raises BadMost for any object that is no number from 1 on."""
    if not is_number(thing) or thing == 0:
        raise BadMost(thing)


def leads_of(rules):
    """The dict of the pairs (source, goal), not the same, and the first (rule, turn) that has them."""
    told = {}
    for rule in range(len(rules)):
        for turn in TURNS:
            source, goal = sides(rules, (0, rule, turn))
            if source != goal:
                told.setdefault((source, goal), (rule, turn))
    return told


class Lot:
    """The lot of a word, its words in their order, and its tree; TooFar if it has more than most words.

    A lot's step is told as (word, place, rule).
    """

    def __init__(self, book, word, most):
        self._rules = book.rules()
        self._leads = leads_of(self._rules)
        self._words = [word]
        # The pair (word, step) by which each word but the first is reached.
        self._tree = {word: None}
        level = [word]
        while level != []:
            level = self._reached_from(level, most)
            self._words.extend(level)

    def _leading_on(self, word):
        """The list of the pairs (step, word behind), ascending, that lead from word to other words.

        Of steps that change the same letters alike there is the first alone.
        """
        told = []
        for (source, goal), (rule, turn) in self._leads.items():
            place = word.find(source)
            while place >= 0:
                told.append(((place, rule, turn), word[:place] + goal + word[place + len(source):]))
                place = word.find(source, place + 1)
        return sorted(told)

    def _reached_from(self, level, most):
        """The list of the words, ascending, that are reached from those of level first."""
        fresh = []
        for word in level:
            for step, behind in self._leading_on(word):
                if behind not in self._tree:
                    self._tree[behind] = (word, step)
                    fresh.append(behind)
                    if len(self._tree) > most:
                        raise TooFar(most)
        return sorted(fresh)

    def words(self):
        """The list of all words, in the lot's order."""
        return list(self._words)

    def shortest(self):
        """The first of the shortest words, ascending."""
        return min([(len(word), word) for word in self._words])[1]

    def steps_of(self, word):
        """The list of the lot's steps on a word, ascending."""
        return [(word, place, rule) for place, rule, turn in steps_on(self._rules, word) if turn == "on"]

    def steps(self):
        """The list of all of the lot's steps, in the lot's order."""
        told = []
        for word in self._words:
            told.extend(self.steps_of(word))
        return told

    def along(self, word, step):
        """The lot's step that a step on a word of the lot is, or goes back."""
        place, rule, turn = step
        if turn == "on":
            return (word, place, rule)
        return (word_behind(self._rules, word, step), place, rule)

    def behind(self, step):
        """The word to which one of the lot's steps leads."""
        word, place, rule = step
        return word_behind(self._rules, word, (place, rule, "on"))

    def loops(self):
        """The list of the lot's steps that are not in the tree, in the lot's order."""
        reached = [pair for pair in self._tree.values() if pair is not None]
        in_tree = {self.along(word, step): True for word, step in reached}
        return [step for step in self.steps() if step not in in_tree]

    def tree_way(self, word):
        """The list of the steps of the tree way of a word."""
        told = []
        pair = self._tree[word]
        while pair is not None:
            told.append(pair[1])
            pair = self._tree[pair[0]]
        told.reverse()
        return told


def need_lot(book, word, most):
    """The lot of word; raises what is due for what is no book, no word, no greatest number, too far."""
    need_book(book)
    need_word(word)
    need_most(most)
    return Lot(book, word, most)
