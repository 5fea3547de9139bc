"""[52], [53], [57]: the strip of a round, straight rounds, and the fewest boxes it is carried to."""

import random
import unittest

from tests.helpers import HALVES, RING, TWINS, anything, lists_within, raised, random_round, random_way, sample_rounds
from tests.oracles import pairs_told
from tests.test_rounds import A, BELTS, FIRST, IDLE, belt
from waysback.errors import BadWay, NotRound
from waysback.goings import put_behind, put_beside, turned_back
from waysback.idles import bare, is_bare
from waysback.likeness import alike, fewest
from waysback.rounds import carried, no_steps, power
from waysback.straights import fewest_carried, is_straight, straight, strip_pairs
from waysback.ways import Way

TURN = Way(RING, "a", [(0, 0, "on"), (0, 1, "on"), (0, 2, "on")])


def strip_told(way):
    """The triples of way's strip, by the idle pairs of so many copies that all wires come to an end."""
    many, copies = len(way.steps()), len(way.word()) + 2
    whole = Way(way.book(), way.word(), way.steps() * copies)
    return sorted((i, j % many, j // many) for i, j in pairs_told(whole) if i < many)


def some_rounds(seed):
    return sample_rounds(seed, 12) + BELTS + [A, FIRST, IDLE, TURN, no_steps(RING, ""), no_steps(RING, "ab")]


class StripTest(unittest.TestCase):
    def test_of_straight_rounds_and_of_others(self):
        self.assertEqual(strip_pairs(way=TURN), [])
        self.assertEqual(strip_pairs(no_steps(RING, "ab")), [])
        # In one copy, and from one copy to the next.
        self.assertEqual(strip_pairs(IDLE), [(0, 1, 0), (1, 0, 1)])
        self.assertEqual(strip_pairs(A), [(3, 0, 1)])
        self.assertEqual(strip_pairs(Way(RING, "aa", [(1, 0, "on"), (1, 0, "back"), (0, 2, "back"), (0, 2, "on")])),
                         [(0, 1, 0), (1, 0, 1), (2, 3, 0), (3, 2, 1)])
        # Through so many copies as letters stand between.
        self.assertEqual(strip_pairs(belt(2, 5)), [(1, 2, 5)])

    def test_many_by_the_idle_pairs_of_many_copies(self):
        found = set()
        for way in some_rounds(180):
            told = strip_pairs(way)
            self.assertEqual(told, strip_told(way))
            self.assertIs(is_straight(way=way), told == [])
            self.assertTrue(all(copies <= len(way.word()) for _, _, copies in told))
            found |= {copies for _, _, copies in told}
        self.assertTrue({0, 1, 2, 3} <= found, found)

    def test_straight_ones_are_bare_so_often_as_they_are_done(self):
        many = 0
        for way in some_rounds(181):
            if is_straight(way):
                for number in range(-2, 4):
                    steps = (way.steps() if number > 0 else turned_back(way).steps()) * abs(number)
                    self.assertIs(is_bare(Way(way.book(), way.word(), steps)), True)
                many += len(way.steps()) > 0
        self.assertGreater(many, 5)

    def test_what_is_not_bare_is_not_straight(self):
        self.assertIs(is_straight(IDLE), False)
        self.assertIs(is_straight(FIRST), True)
        self.assertIs(is_straight(put_behind(FIRST, FIRST)), True)
        self.assertIs(is_straight(put_behind(FIRST, turned_back(FIRST))), False)


class StraightTest(unittest.TestCase):
    def test_a_way_that_carries_to_a_straight_round(self):
        for way in some_rounds(182):
            carrier, core = straight(way=way)
            self.assertEqual((carrier.book(), carrier.word(), carrier.end()), (way.book(), way.word(), core.word()))
            self.assertIs(is_straight(core), True)
            self.assertIs(alike(carried(way, carrier), core), True)
            self.assertIs(type(straight(way)), tuple)
            self.assertEqual(straight(Way(way.book(), way.word(), way.steps())), (carrier, core))

    def test_straight_ones_are_carried_by_no_steps(self):
        for way in (TURN, FIRST, no_steps(HALVES, "xx")):
            self.assertEqual(straight(way), (no_steps(way.book(), way.word()), way))

    def test_alike_to_no_steps_just_if_nothing_is_left(self):
        for way in some_rounds(183):
            self.assertIs(straight(way)[1].steps() == [], fewest(way) == 0)

    def test_belts(self):
        for way in BELTS:
            carrier, core = straight(way)
            self.assertLess(len(core.steps()), len(way.steps()))
            self.assertGreater(len(carrier.steps()), 1)
        self.assertEqual(fewest_carried(belt(3, 6)), 2)


class FewestTest(unittest.TestCase):
    def test_the_same_for_whatever_it_is_carried_to(self):
        rng = random.Random(184)
        for way in some_rounds(185):
            few = fewest_carried(way=way)
            self.assertEqual(few, len(straight(way)[1].steps()))
            self.assertLessEqual(few, fewest(way))
            for _ in range(3):
                other = random_way(rng, way.book(), way.word(), rng.randrange(6), len(way.word()) + 5)
                told = carried(way, other)
                self.assertEqual(fewest_carried(told), few)
                self.assertLessEqual(few, len(told.steps()))
                self.assertIs(is_straight(told), len(told.steps()) == few)
            self.assertEqual(fewest_carried(turned_back(way)), few)

    def test_powers_have_so_many_times_as_many(self):
        for way in sample_rounds(186, 8) + [A, FIRST, TURN]:
            for number in (-3, 0, 2, 5):
                self.assertEqual(fewest_carried(power(way, number)), abs(number) * fewest_carried(way))

    def test_side_by_side_they_are_added(self):
        rng = random.Random(187)
        for _ in range(20):
            first, second = random_round(rng, HALVES, "xx", 6), random_round(rng, HALVES, "x", 6)
            self.assertEqual(fewest_carried(put_beside(first, second)), fewest_carried(first) + fewest_carried(second))

    def test_examples(self):
        self.assertEqual([fewest_carried(way) for way in (A, TURN, FIRST, IDLE)], [2, 3, 2, 0])
        self.assertEqual(fewest(bare(A)), 4)
        told = carried(TURN, Way(RING, "a", [(0, 0, "on")]))
        self.assertEqual(told, Way(RING, "b", [(0, 1, "on"), (0, 2, "on"), (0, 0, "on")]))
        self.assertIs(is_straight(TURN) and is_straight(told), True)
        beside = put_beside(TURN, no_steps(RING, "b"))
        self.assertEqual(carried(beside, Way(RING, "ab", [(1, 1, "on")])), put_beside(TURN, no_steps(RING, "c")))


class ErrorsTest(unittest.TestCase):
    def test_bad_way_and_not_round(self):
        for call in (strip_pairs, is_straight, straight, fewest_carried):
            for thing in anything():
                if not isinstance(thing, Way):
                    error = raised(call, thing)
                    self.assertIs(type(error), BadWay)
                    self.assertIs(error.thing, thing)
            for way in (Way(HALVES, "xx", [(0, 0, "on")]), Way(TWINS, "ab", [(0, 1, "on")])):
                error = raised(call, way)
                self.assertIs(type(error), NotRound)
                self.assertEqual(error.end, way.end())

    def test_told_lists_are_new(self):
        lists_within(strip_pairs(A))[0].clear()
        self.assertEqual(strip_pairs(A), [(3, 0, 1)])


if __name__ == "__main__":
    unittest.main()
