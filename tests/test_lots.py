"""[65], [68], [71]: finite lots, their squares and their cubes."""

import itertools
import random
import unittest

from tests.helpers import DOUBLES, HALVES, NO_RULES, OTHER_KINDS, RING, SWAPS, TWINS, anything, raised, word_after
from waysback.books import Book
from waysback.counts import rank, round_with
from waysback.errors import BadBook, BadMost, BadWord, TooFar
from waysback.goings import steps_at
from waysback.loops import loop_round, loops, round_of, square_roads
from waysback.lots import cubes, lot, squares

TWO = Book([("a", "b"), ("b", "a")])
CALLS = [
    (lot, ()), (squares, ()), (cubes, ()), (loops, ()), (square_roads, ()), (rank, ()),
]
# Those that have a parameter between the word and most.
BETWEEN = [loop_round, round_of, round_with]


def lot_told(book, word, most):
    """The lot of word by its levels, None if it has more than most words."""
    far = {word: 0}
    line = [word]
    for at in line:
        for step in steps_at(book, at):
            behind = word_after(book, at, step)
            if behind not in far:
                far[behind] = far[at] + 1
                line.append(behind)
                if len(line) > most:
                    return None
    return sorted(line, key=lambda at: (far[at], at))


def steps_on_told(book, word):
    return [(place, rule) for place, rule, turn in steps_at(book, word) if turn == "on"]


def finite_lots(seed, count, most=24, letters="abc"):
    """Pairs (book, word) with lots of at most so many words, of several shapes."""
    rng = random.Random(seed)
    told = []
    while len(told) < count:
        rules = []
        for _ in range(rng.randrange(1, 5)):
            rules.append(tuple("".join(rng.choice(letters) for _ in range(rng.choice([1, 1, 2]))) for _ in range(2)))
        book = Book(rules)
        word = "".join(rng.choice(letters) for _ in range(rng.randrange(5)))
        if lot_told(book, word, most) is not None:
            told.append((book, word))
    return told


def apart_told(book, word, many):
    """How many lots of so many steps on, each two apart, there are on word, by trying each."""
    steps = steps_on_told(book, word)
    ends = [(place, place + len(book.rules()[rule][0])) for place, rule in steps]
    return sum(
        all(first[1] <= second[0] or second[1] <= first[0] for first, second in itertools.combinations(chosen, 2))
        for chosen in itertools.combinations(ends, many)
    )


class LotTest(unittest.TestCase):
    def test_in_its_order(self):
        for book, word in finite_lots(250, 200):
            self.assertEqual(lot(book=book, word=word, most=24), lot_told(book, word, 24))

    def test_the_example(self):
        self.assertEqual(lot(TWO, "aa", 4), ["aa", "ab", "ba", "bb"])
        self.assertEqual(lot(TWO, "bb", 9), ["bb", "ab", "ba", "aa"])
        self.assertEqual(lot(RING, "a", 3), ["a", "b", "c"])
        self.assertEqual(lot(RING, "b", 3), ["b", "a", "c"])

    def test_of_one_word(self):
        for book, word in ((NO_RULES, "ab"), (TWINS, ""), (HALVES, ""), (TWINS, "xyz"), (Book([("a", "a")]), "aa")):
            self.assertEqual(lot(book, word, 1), [word])

    def test_as_many_as_most_and_one_more(self):
        for book, word in finite_lots(251, 60):
            many = len(lot_told(book, word, 24))
            self.assertEqual(len(lot(book, word, many)), many)
            self.assertEqual(len(lot(book, word, 10 ** 30)), many)
            if many > 1:
                error = raised(lot, book, word, many - 1)
                self.assertIs(type(error), TooFar)
                self.assertEqual(error.most, many - 1)

    def test_without_end(self):
        for book, word in ((HALVES, "x"), (DOUBLES, "xx"), (SWAPS, "a")):
            for most in (1, 7, 200):
                for call, more in CALLS:
                    error = raised(call, book, word, *more, most)
                    self.assertIs(type(error), TooFar)
                    self.assertEqual(error.most, most)

    def test_errors_in_their_order(self):
        for call in [call for call, _ in CALLS] + BETWEEN:
            between = (None,) if call in BETWEEN else ()
            for thing in anything():
                if not isinstance(thing, Book):
                    error = raised(call, thing, 5, *between, 0)
                    self.assertIs(type(error), BadBook)
                    self.assertIs(error.thing, thing)
                if thing not in ("", "ab"):
                    error = raised(call, HALVES, thing, *between, 0)
                    self.assertIs(type(error), BadWord)
                    self.assertIs(error.thing, thing)
            for thing in OTHER_KINDS + ["", "1", [], [1], HALVES, -7]:
                if not isinstance(thing, int) or isinstance(thing, bool) or thing < 1:
                    error = raised(call, HALVES, "x", *between, thing)
                    self.assertIs(type(error), BadMost)
                    self.assertIs(error.thing, thing)
            error = raised(call, HALVES, "x", *between, 3)
            self.assertIs(type(error), TooFar)
            self.assertEqual(error.most, 3)


class SquaresTest(unittest.TestCase):
    def test_by_trying_each_pair_of_steps(self):
        for book, word in finite_lots(252, 150):
            told = []
            for at in lot_told(book, word, 24):
                own = []
                for place, rule in steps_on_told(book, at):
                    for second, other in steps_on_told(book, at):
                        if second >= place + len(book.rules()[rule][0]):
                            own.append((at, place, rule, second, other))
                told += sorted(own)
            self.assertEqual(squares(book=book, word=word, most=24), told)

    def test_the_example(self):
        self.assertEqual(squares(TWO, "aa", 4),
                         [("aa", 0, 0, 1, 0), ("ab", 0, 0, 1, 1), ("ba", 0, 1, 1, 0), ("bb", 0, 1, 1, 1)])

    def test_sides_that_touch_and_that_overlap(self):
        book = Book([("ab", "ab"), ("b", "b"), ("c", "c")])
        self.assertEqual(squares(book, "abc", 1), [("abc", 0, 0, 2, 2), ("abc", 1, 1, 2, 2)])


class CubesTest(unittest.TestCase):
    def test_by_trying_each_lot_of_steps(self):
        for book, word in finite_lots(253, 120, 12) + [(Book([("a", "a")] * 2), "aaaa"), (RING, "ab")]:
            told = []
            words = lot_told(book, word, 12)
            while sum(apart_told(book, at, len(told)) for at in words):
                told.append(sum(apart_told(book, at, len(told)) for at in words))
            self.assertEqual(cubes(book=book, word=word, most=12), told)

    def test_words_steps_and_squares_come_first(self):
        for book, word in finite_lots(254, 100):
            told = cubes(book, word, 24) + [0, 0, 0]
            words = lot(book, word, 24)
            self.assertEqual(told[0], len(words))
            self.assertEqual(told[1], sum(len(steps_on_told(book, at)) for at in words))
            self.assertEqual(told[2], len(squares(book, word, 24)))

    def test_the_example_and_the_empty_word(self):
        self.assertEqual(cubes(TWO, "aa", 4), [4, 8, 4])
        self.assertEqual(cubes(TWO, "", 1), [1])
        self.assertEqual(cubes(NO_RULES, "abc", 1), [1])

    def test_webs(self):
        # A lot without squares: as many loops as steps less words and one more.
        seen = 0
        for book, word in finite_lots(255, 200):
            told = cubes(book, word, 24)
            if len(told) < 3:
                seen += 1
                self.assertEqual(squares(book, word, 24), [])
                many = len(loops(book, word, 24))
                self.assertEqual(many, (told + [0])[1] - told[0] + 1)
                self.assertEqual(rank(book, word, 24), many)
        self.assertGreater(seen, 30)

    def test_by_what_stands_first(self):
        for book, word in finite_lots(256, 80):
            words = lot(book, word, 24)
            if word == "":
                continue
            firsts = set()
            for at in words:
                rest = min(lot_told(book, at[1:], 24), key=lambda one: (len(one), one))
                firsts.add((at[0], rest))
            rules = set()
            for at in words:
                for rule, (left, _) in enumerate(book.rules()):
                    if at.startswith(left):
                        rest = min(lot_told(book, at[len(left):], 24), key=lambda one: (len(one), one))
                        rules.add((rule, rest))
            told = [0] * 12
            for _, rest in firsts:
                for at, many in enumerate(cubes(book, rest, 24)):
                    told[at] += many
            for _, rest in rules:
                for at, many in enumerate(cubes(book, rest, 24)):
                    told[at + 1] += many
            expected = cubes(book, word, 24)
            self.assertEqual(told, expected + [0] * (12 - len(expected)))

    def test_words_of_other_letters_side_by_side(self):
        both = finite_lots(257, 40, 8, "ab")
        for (book, word), (other, second) in zip(both, reversed(both)):
            apart = Book(book.rules() + [(left.replace("a", "x").replace("b", "y"), right.replace("a", "x").replace("b", "y"))
                                         for left, right in other.rules()])
            behind = second.replace("a", "x").replace("b", "y")
            first, last = cubes(book, word, 8), cubes(other, second, 8)
            told = [0] * (len(first) + len(last) - 1)
            for at, many in enumerate(first):
                for place, more in enumerate(last):
                    told[at + place] += many * more
            self.assertEqual(cubes(apart, word + behind, 64), told)
            self.assertEqual(rank(apart, word + behind, 64), rank(book, word, 8) + rank(other, second, 8))


if __name__ == "__main__":
    unittest.main()
