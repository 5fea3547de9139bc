"""[69], [70]: counts of steps by their kinds, ranks, and rounds with given counts."""

import random
import unittest
from fractions import Fraction

from tests.helpers import HALVES, NO_RULES, OTHER_KINDS, RING, TWINS, anything, as_lists, raised, random_round
from tests.helpers import random_way, way_told_back
from tests.test_lots import TWO, finite_lots, lot_told
from waysback.books import Book
from waysback.counts import counts, rank, round_with
from waysback.errors import BadMost, BadTable, BadWay, TooFar
from waysback.goings import put_behind, steps_at, turned_back
from waysback.idles import bare
from waysback.loops import loop_round, loops, square_roads
from waysback.rounds import no_steps
from waysback.ways import Way


def first_told(book, word):
    """The first word of a lot."""
    return min(lot_told(book, word, 1000), key=lambda one: (len(one), one))


def kind_told(book, word, step):
    place, rule, turn = step
    left, right = book.rules()[rule]
    source = left if turn == "on" else right
    return first_told(book, word[:place]), rule, first_told(book, word[place + len(source):])


def counts_told(way):
    numbers = {}
    for word, step in zip(way.words(), way.steps()):
        kind = kind_told(way.book(), word, step)
        numbers[kind] = numbers.get(kind, 0) + (1 if step[2] == "on" else -1)
    return sorted(kind + (many,) for kind, many in numbers.items() if many)


def rank_told(rows):
    """The rank of rows of numbers, all of one length."""
    rows = [[Fraction(number) for number in row] for row in rows]
    told = 0
    for column in range(len(rows[0]) if rows else 0):
        pivots = [at for at in range(told, len(rows)) if rows[at][column]]
        if pivots:
            rows[told], rows[pivots[0]] = rows[pivots[0]], rows[told]
            for at in range(told + 1, len(rows)):
                factor = rows[at][column] / rows[told][column]
                rows[at] = [one - factor * other for one, other in zip(rows[at], rows[told])]
            told += 1
    return told


def kinds_of_lot(book, word):
    """The kinds of the steps of a lot."""
    return {kind_told(book, at, step) for at in lot_told(book, word, 1000) for step in steps_at(book, at) if step[2] == "on"}


def is_balanced(book, table):
    """Whether of each kind of wires as many are given as taken."""
    total = {}
    for (a, rule, b), many in table.items():
        for side, one in zip(book.rules()[rule], (-many, many)):
            for at, letter in enumerate(side):
                wire = (first_told(book, a + side[:at]), letter, first_told(book, side[at + 1:] + b))
                total[wire] = total.get(wire, 0) + one
    return not any(total.values())


def sums_of_loops(rng, book, word, most, greatest=4):
    """A dict of the counts of a round that goes each loop some number of times."""
    table = {}
    for number in range(len(loops(book, word, most))):
        times = rng.randrange(-greatest, greatest + 1)
        for a, rule, b, many in counts(loop_round(book, word, number, most), most):
            table[(a, rule, b)] = table.get((a, rule, b), 0) + times * many
    return table


def rows_of(table):
    return [kind + (many,) for kind, many in table.items()]


class CountsTest(unittest.TestCase):
    def test_by_the_kinds_of_the_steps(self):
        rng = random.Random(280)
        for book, word in finite_lots(281, 120):
            way = random_way(rng, book, word, rng.randrange(9))
            self.assertEqual(counts(way=way, most=24), counts_told(way))

    def test_the_example(self):
        self.assertEqual(counts(Way(TWO, "aa", [(0, 0, "on"), (0, 1, "on")]), 4), [("", 0, "a", 1), ("", 1, "a", 1)])
        self.assertEqual(counts(Way(TWO, "aa", [(1, 0, "on"), (1, 0, "back")]), 4), [])
        # What stands beside is told by the first word of its lot.
        self.assertEqual(counts(Way(TWO, "bb", [(1, 0, "back"), (0, 1, "on")]), 4), [("", 1, "a", 1), ("a", 0, "", -1)])
        self.assertEqual(counts(no_steps(TWO, ""), 1), [])

    def test_the_shortest_word_is_first(self):
        book = Book([("aa", "b"), ("c", "d")])
        self.assertEqual(counts(Way(book, "aaac", [(3, 1, "on")]), 9), [("ab", 1, "", 1)])
        self.assertEqual(counts(Way(book, "caa", [(0, 1, "on")]), 9), [("", 1, "b", 1)])

    def test_alike_ways_have_the_same(self):
        rng = random.Random(282)
        for book, word in finite_lots(283, 60):
            way = random_way(rng, book, word, 8)
            self.assertEqual(counts(way, 24), counts(bare(way), 24))
            around = put_behind(way, turned_back(way))
            self.assertEqual(counts(around, 24), [])
            other = random_way(rng, book, way.end(), 4)
            told = {row[:3]: row[3] for row in counts(way, 24)}
            for row in counts(other, 24):
                told[row[:3]] = told.get(row[:3], 0) + row[3]
            self.assertEqual(counts(put_behind(way, other), 24), sorted(k + (v,) for k, v in told.items() if v))

    def test_errors_in_their_order(self):
        for thing in anything():
            if not isinstance(thing, Way):
                error = raised(counts, thing, 0)
                self.assertIs(type(error), BadWay)
                self.assertIs(error.thing, thing)
        way = Way(RING, "ab", [(0, 0, "on")])
        for thing in OTHER_KINDS + ["1", [1], -4]:
            if not isinstance(thing, int) or isinstance(thing, bool) or thing < 1:
                error = raised(counts, way, thing)
                self.assertIs(type(error), BadMost)
                self.assertIs(error.thing, thing)
        error = raised(counts, way, 8)
        self.assertIs(type(error), TooFar)
        self.assertEqual(error.most, 8)
        self.assertEqual(counts(way, 9), [("", 0, "a", 1)])


class RankTest(unittest.TestCase):
    def test_by_loops_and_square_roads(self):
        for book, word in finite_lots(284, 100, 16) + [(TWO, "aa"), (RING, "ab"), (TWINS, "aaa")]:
            many = len(loops(book, word, 16))
            rows = []
            for first, second in square_roads(book, word, 16):
                row = [0] * many
                for spelling, sign in ((first, 1), (second, -1)):
                    for number, turn in spelling:
                        row[number] += sign if turn == "on" else -sign
                rows.append(row)
            self.assertEqual(rank(book=book, word=word, most=16), many - rank_told(rows))

    def test_by_the_counts_of_loops(self):
        for book, word in finite_lots(285, 100, 16):
            kinds = sorted(kinds_of_lot(book, word))
            rows = []
            for number in range(len(loops(book, word, 16))):
                told = {row[:3]: row[3] for row in counts(loop_round(book, word, number, 16), 16)}
                rows.append([told.get(kind, 0) for kind in kinds])
            self.assertEqual(rank(book, word, 16), rank_told(rows))

    def test_samples(self):
        self.assertEqual(rank(TWO, "aa", 4), 2)
        self.assertEqual(rank(RING, "abc", 27), 3)
        self.assertEqual(rank(TWINS, "aab", 8), 3)
        self.assertEqual(rank(NO_RULES, "ab", 1), 0)
        self.assertEqual(rank(TWO, "", 1), 0)
        self.assertEqual(rank(Book([("a", "a")] * 3), "aa", 1), 6)


class RoundWithTest(unittest.TestCase):
    def held(self, book, word, table, told):
        self.assertEqual((told.book(), told.word(), told.end()), (book, word, word))
        self.assertEqual(counts_told(told), sorted(row for row in rows_of(table) if row[3]))

    def test_numbers_that_balance(self):
        rng = random.Random(286)
        for book, word in finite_lots(287, 80, 16) + [(TWO, "aa"), (RING, "ab"), (TWINS, "aaa")]:
            table = sums_of_loops(rng, book, word, 16)
            self.assertTrue(is_balanced(book, table))
            rows = rows_of(table)
            rng.shuffle(rows)
            told = round_with(book=book, word=word, numbers=rows, most=16)
            self.held(book, word, table, told)
            self.assertEqual(round_with(book, word, as_lists(rows), 16), told)

    def test_numbers_that_may_balance_or_not(self):
        rng = random.Random(288)
        seen = {True: 0, False: 0}
        for book, word in finite_lots(289, 150, 9):
            kinds = sorted(kinds_of_lot(book, word))
            table = {kind: rng.choice([0, 0, 1, -1]) for kind in rng.sample(kinds, min(3, len(kinds)))}
            told = round_with(book, word, rows_of(table), 9)
            self.assertIs(told is not None, is_balanced(book, table))
            if told is not None:
                self.held(book, word, table, told)
            seen[told is not None] += 1
        self.assertTrue(min(seen.values()) > 20, seen)

    def test_of_a_round_its_own(self):
        rng = random.Random(290)
        for book, word in finite_lots(291, 60, 16):
            way = random_round(rng, book, word, 6)
            told = round_with(book, word, counts(way, 16), 16)
            self.assertEqual(counts(told, 16), counts(way, 16))
            back = Way(book, word, way_told_back(way))
            self.assertEqual(counts(round_with(book, word, counts(back, 16), 16), 16), counts(back, 16))

    def test_samples(self):
        self.held(TWO, "bb", {}, round_with(TWO, "bb", [], 4))
        self.held(TWO, "aa", {("", 0, "a"): 0}, round_with(TWO, "aa", [("", 0, "a", 0)], 4))
        self.assertIsNone(round_with(TWO, "aa", [("", 0, "a", 1)], 4))
        self.assertIsNone(round_with(TWO, "aa", [("", 0, "a", 1), ("a", 1, "", 1)], 4))
        table = {("", 0, "a"): 100, ("", 1, "a"): 100, ("a", 0, ""): -7, ("a", 1, ""): -7}
        self.held(TWO, "ab", table, round_with(TWO, "ab", rows_of(table), 4))

    def test_bad_table(self):
        right = [("", 0, "a", 1), ("", 1, "a", 1)]
        wrong = OTHER_KINDS + [
            (), ("", 0, "a"), ("", 0, "a", 1, 1), ("", 0, "a", True), ("", 0, "a", None), ("", 0, "a", "1"), ("a", 0, "a", 1),
            ("", 2, "a", 1), ("", True, "a", 1), ("", "0", "a", 1), ("b", 0, "", 1), ("", 0, "b", 1), (None, 0, "a", 1),
            ("", 0, [], 1), ([], 0, "a", 1), ("", [], "a", 1), "abcd", ("", 0, "", 0),
        ]
        for thing in wrong:
            for at in range(3):
                error = raised(round_with, TWO, "aa", right[:at] + [thing, None] + right[at:], 4)
                self.assertIs(type(error), BadTable, repr(thing))
                self.assertEqual(error.index, at)
        for thing in OTHER_KINDS + ["", "ab"]:
            error = raised(round_with, TWO, "aa", thing, 4)
            self.assertIs(type(error), BadTable, repr(thing))
            self.assertEqual(error.index, 0)

    def test_a_kind_that_has_stood_ahead(self):
        right = [("", 0, "a", 1), ("", 1, "a", 1)]
        for again in (("", 0, "a", 1), ["", 0, "a", -1], ("", 1, "a", 0)):
            error = raised(round_with, TWO, "aa", right + [again, None], 4)
            self.assertIs(type(error), BadTable)
            self.assertEqual(error.index, 2)

    def test_too_far_ahead_of_what_is_wrong_in_the_table(self):
        self.assertIs(type(raised(round_with, HALVES, "x", None, 20)), TooFar)
        self.assertIs(type(raised(round_with, TWO, "aa", None, 3)), TooFar)


if __name__ == "__main__":
    unittest.main()
