"""Kinds of steps and wires of a finite lot: by the first words of the lots of what stands beside them."""

from waysback.doing import sides, word_behind
from waysback.finite import Lot


class Kinds:
    """The kinds of what stands in words of lots that have no more than most words."""

    def __init__(self, book, most):
        self._book = book
        self._rules = book.rules()
        self._most = most
        self._known = {}
        self._leads = {}

    def first(self, word):
        """The first word of a word's lot."""
        if word not in self._known:
            found = Lot(self._book, word, self._most)
            shortest = found.shortest()
            for one in found.words():
                self._known[one] = shortest
        return self._known[word]

    def of_step(self, word, step):
        """The kind (a, rule, b) of a step that is done on word."""
        place, rule, _ = step
        source, _ = sides(self._rules, step)
        return (self.first(word[:place]), rule, self.first(word[place + len(source):]))

    def balance(self, kind):
        """The dict that has, for each kind of wires, how many a step on of this kind gives, less takes."""
        ahead, rule, behind = kind
        left, right = self._rules[rule]
        told = {}
        for side, one in ((left, -1), (right, 1)):
            for at, letter in enumerate(side):
                wire = (self.first(ahead + side[:at]), letter, self.first(side[at + 1:] + behind))
                told[wire] = told.get(wire, 0) + one
        return told

    def _lead(self, word):
        """The list of the steps of one way from word to the first word of its lot."""
        if word not in self._leads:
            self._leads[word] = Lot(self._book, word, self._most).tree_way(self.first(word))
        return self._leads[word]

    def home(self, word):
        """The list of the pairs (word, step) of the home way of a word, to the first word of its lot.

        It goes letter by letter from the left, so that of its steps, by their kinds, so many come from
        each letter as hang on the kind of the letter's wire alone.
        """
        told = []
        ahead = ""
        for at, letter in enumerate(word):
            now = ahead + letter + word[at + 1:]
            for step in self._lead(ahead + letter):
                told.append((now, step))
                now = word_behind(self._rules, now, step)
            ahead = self.first(ahead + letter)
        return told
