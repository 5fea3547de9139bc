"""[59]: roots of rounds."""

import random
import unittest

from tests.helpers import HALVES, OTHER_KINDS, RING, ROUND_BOOKS, anything, raised, random_round, random_way
from tests.helpers import sample_rounds
from tests.oracles import bare_told
from tests.test_rings import SAME, beside
from tests.test_rounds import A, BELTS, FIRST, IDLE
from tests.test_straights import TURN
from waysback.errors import BadNumber, BadWay, NotRound
from waysback.goings import put_behind, put_beside, turned_back
from waysback.idles import bare
from waysback.likeness import fewest
from waysback.rings import ring
from waysback.roots import nth_root, root
from waysback.rounds import carried, no_steps, power
from waysback.straights import fewest_carried, straight
from waysback.ways import Way


def turns_of(way):
    return [item[2] for item in ring(straight(way)[1]) if item[0] == "part"]


def greatest_of(numbers):
    """The greatest number that divides all of numbers, 0 of none, by trying each."""
    tried = range(1, max(numbers, default=0) + 1)
    return max([many for many in tried if all(one % many == 0 for one in numbers)], default=0)


def some_rounds(seed):
    rng = random.Random(seed)
    told = [A, FIRST, IDLE] + BELTS
    for way in sample_rounds(seed, 9):
        aside = random_way(rng, way.book(), way.word(), rng.randrange(6), 9)
        told += [way, carried(power(way, rng.choice([1, 2, 3, 4, -2, -6])), aside)]
    for book in ROUND_BOOKS:
        letters = sorted({letter for rule in book.rules() for side in rule for letter in side})
        for _ in range(6):
            parts = [power(random_round(rng, book, rng.choice(letters), 4), rng.choice([1, 2, 4, 6])) for _ in range(2)]
            told.append(beside(parts[0], no_steps(book, rng.choice(letters)), parts[1]))
    return told


class RootTest(unittest.TestCase):
    def test_done_so_often_it_is_the_round(self):
        seen = {}
        for way in some_rounds(220):
            told, number = root(way=way)
            self.assertEqual(number, greatest_of(turns_of(way)))
            self.assertEqual(told, bare_told(told))
            self.assertEqual((told.book(), told.word(), told.end()), (way.book(), way.word(), way.word()))
            if fewest(way) == 0:
                self.assertEqual((told, number), (no_steps(way.book(), way.word()), 0))
            else:
                self.assertEqual(power(told, number), bare(way))
                self.assertEqual(root(told), (told, 1))
                self.assertEqual(number * fewest_carried(told), fewest_carried(way))
            seen[number] = seen.get(number, 0) + 1
        self.assertTrue({0, 1, 2, 3, 4, 6} <= set(seen), seen)

    def test_of_powers_and_of_the_round_gone_back(self):
        for way in some_rounds(221):
            told, number = root(way)
            for times in (2, 3, -1):
                more, many = root(power(way, times))
                self.assertEqual(many, number * abs(times))
                if number:
                    self.assertEqual(more, told if times > 0 else bare(turned_back(told)))

    def test_carried_roots_are_carried(self):
        rng = random.Random(222)
        for way in some_rounds(223):
            aside = random_way(rng, way.book(), way.word(), 4, 9)
            told, number = root(way)
            self.assertEqual(root(carried(way, aside)), (carried(told, aside), number))

    def test_the_examples(self):
        self.assertEqual(root(power(A, 6)), (A, 6))
        self.assertEqual(root(Way(RING, "a", TURN.steps() * 4)), (TURN, 4))
        self.assertEqual(root(beside(power(TURN, 4), no_steps(RING, "b"), power(TURN, 6))),
                         (bare(beside(power(TURN, 2), no_steps(RING, "b"), power(TURN, 3))), 2))

    def test_of_nothing(self):
        for way in (no_steps(RING, ""), no_steps(HALVES, "xx"), IDLE, put_behind(A, turned_back(A))):
            self.assertEqual(root(way), (no_steps(way.book(), way.word()), 0))

    def test_a_root_that_turns_by_less_than_a_box_of_each_letter(self):
        # A step moves two letters by one: it is itself turned half around, at another place.
        way = Way(SAME, "xx", [(0, 0, "on"), (1, 0, "on"), (0, 0, "on"), (1, 0, "on")])
        self.assertEqual(root(way), (bare(Way(SAME, "xx", [(0, 0, "on"), (1, 0, "on")])), 2))

    def test_bad_way_then_not_round(self):
        for thing in anything():
            if not isinstance(thing, Way):
                for call, more in ((root, ()), (nth_root, (None,))):
                    error = raised(call, thing, *more)
                    self.assertIs(type(error), BadWay)
                    self.assertIs(error.thing, thing)
        leading = Way(HALVES, "xxx", [(0, 0, "on")])
        for call, more in ((root, ()), (nth_root, (None,)), (nth_root, (0,))):
            error = raised(call, leading, *more)
            self.assertIs(type(error), NotRound)
            self.assertEqual(error.end, "xx")


class NthRootTest(unittest.TestCase):
    def test_there_just_if_the_number_divides_all_turns(self):
        for way in some_rounds(224):
            turns = turns_of(way)
            for number in (1, 2, 3, 4, 5, 6, 12):
                told = nth_root(way=way, number=number)
                if all(each % number == 0 for each in turns):
                    self.assertEqual(power(told, number), bare(way))
                    self.assertEqual(told, bare_told(told))
                else:
                    self.assertIsNone(told)

    def test_the_one_that_was_done(self):
        for way in some_rounds(225):
            for number in (1, 2, 5):
                self.assertEqual(nth_root(power(way, number), number), bare(way))

    def test_of_nothing_there_is_each(self):
        for number in (1, 2, 999999999):
            self.assertEqual(nth_root(IDLE, number), no_steps(HALVES, "xx"))
        self.assertIsNone(nth_root(A, 999999999))

    def test_bad_number(self):
        for thing in OTHER_KINDS + ["", "1", [], [1], (1,), A, -5, 0]:
            if not isinstance(thing, int) or isinstance(thing, bool) or thing < 1:
                error = raised(nth_root, A, thing)
                self.assertIs(type(error), BadNumber, repr(thing))
                self.assertIs(error.thing, thing)
        self.assertIsNone(nth_root(A, 10 ** 30))

    def test_as_many_turns_as_steps(self):
        way = Way(SAME, "x", [(0, 0, "on")] * 100)
        self.assertEqual(root(way), (Way(SAME, "x", [(0, 0, "on")]), 100))
        for number in range(1, 101):
            told = nth_root(way, number)
            if 100 % number:
                self.assertIsNone(told)
            else:
                self.assertEqual(told, Way(SAME, "x", [(0, 0, "on")] * (100 // number)))


if __name__ == "__main__":
    unittest.main()
