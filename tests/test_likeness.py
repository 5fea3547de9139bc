"""[29], [32], [33]: whether ways are alike, and how far they are from one another."""

import random
import unittest

from tests.helpers import DOUBLES, HALVES, RING, SWAPS, TWINS, anything, drawn_ways, raised, sample_ways
from tests.helpers import random_way, way_told_back, ways_from
from tests.oracles import bare_told, behind_told, event_keys
from tests.test_idles import idle_ways
from waysback.books import Book
from waysback.errors import BadOther, BadWay
from waysback.goings import put_behind, put_beside, turned_back
from waysback.hangings import order_at, orders_count, reordered
from waysback.idles import bare
from waysback.likeness import alike, distance, fewest
from waysback.moves import moved
from waysback.ways import Way


def led_to_each_other(ways):
    """For each of these ways, all up to some number of steps, the number of those that moves lead to."""
    at = {tuple(way.steps()): number for number, way in enumerate(ways)}
    lots = [[number] for number in range(len(ways))]
    where = list(range(len(ways)))
    for number, way in enumerate(ways):
        for index in range(len(way.steps())):
            for kind in ("exchange", "strike"):
                if raised(moved, way, (kind, index)) is None:
                    other = at[tuple(moved(way, (kind, index)).steps())]
                    first, second = where[number], where[other]
                    if first != second:
                        for one in lots[second]:
                            where[one] = first
                        lots[first] += lots[second]
    return where


class AlikeTest(unittest.TestCase):
    def test_just_those_to_which_moves_lead(self):
        rng = random.Random(60)
        for book, word, many in ((HALVES, "xx", 4), (DOUBLES, "xx", 3), (TWINS, "ab", 4), (RING, "ab", 4), (SWAPS, "ab", 3)):
            ways = ways_from(book, word, many)
            led = led_to_each_other(ways)
            for one in range(len(ways)):
                same = [other for other in rng.sample(range(len(ways)), 6)]
                same.append(rng.choice([other for other in range(len(ways)) if led[other] == led[one]]))
                for other in same:
                    self.assertIs(alike(way=ways[one], other=ways[other]), led[one] == led[other])

    def test_alike_ways_have_one_end_and_stay_so(self):
        for way in idle_ways(61):
            told = bare(way)
            self.assertIs(alike(way, told), True)
            self.assertEqual(way.end(), told.end())
            self.assertIs(alike(put_behind(way, turned_back(way)), Way(way.book(), way.word(), [])), True)
            self.assertIs(alike(Way(Book(way.book().rules()), way.word(), way.steps()), told), True)

    def test_the_example_of_two_alike_rules(self):
        self.assertIs(alike(Way(TWINS, "a", [(0, 0, "on"), (0, 1, "back")]), Way(TWINS, "a", [])), False)


class FarTest(unittest.TestCase):
    def test_fewest(self):
        self.assertEqual(fewest(way=Way(HALVES, "xx", [])), 0)
        for way in idle_ways(62) + sample_ways(62, 12):
            self.assertEqual(fewest(way), len(bare_told(way).steps()))
            self.assertEqual((len(way.steps()) - fewest(way)) % 2, 0)

    def test_none_alike_has_fewer_and_those_with_as_many_are_the_orders(self):
        for book, word, many in ((HALVES, "xx", 4), (DOUBLES, "xx", 3), (RING, "ab", 3)):
            ways = ways_from(book, word, many)
            led = led_to_each_other(ways)
            for number, way in enumerate(ways[::7]):
                lot = [other for at, other in enumerate(ways) if led[at] == led[7 * number]]
                least = min(len(other.steps()) for other in lot)
                told = bare(way)
                self.assertEqual(fewest(way), least)
                orders = [reordered(told, order_at(told, k)).steps() for k in range(orders_count(told))]
                few = [other.steps() for other in lot if len(other.steps()) == least]
                self.assertEqual(sorted(few), sorted(orders))

    def test_distance_as_told_and_by_events(self):
        rng = random.Random(63)
        for book, word in ((HALVES, "xx"), (DOUBLES, "xx"), (TWINS, "ab"), (RING, "abc"), (SWAPS, "abx")):
            ways = drawn_ways(rng, book, word, 12, 6)
            for way in ways:
                for other in ways:
                    far = distance(way=way, other=other)
                    self.assertEqual(far, fewest(behind_told(way, other)))
                    self.assertEqual(far, len(event_keys(way) ^ event_keys(other)))
                    self.assertEqual(far, distance(other, way))
                    self.assertIs(far == 0, alike(way, other))

    def test_by_a_third_way_and_behind_a_way(self):
        rng = random.Random(64)
        for book, word in ((HALVES, "xx"), (DOUBLES, "xx"), (SWAPS, "ab")):
            for _ in range(40):
                ahead = random_way(rng, book, word, 3, 9)
                ways = drawn_ways(rng, book, ahead.end(), 3, 5, 10)
                first, second, third = ways
                self.assertLessEqual(distance(first, second), distance(first, third) + distance(third, second))
                behind = [put_behind(ahead, way) for way in ways]
                self.assertEqual(distance(behind[0], behind[1]), distance(first, second))
                self.assertIs(alike(behind[0], behind[1]), alike(first, second))

    def test_so_many_steps_more_come_to_a_way_alike(self):
        rng = random.Random(65)
        for way, other in zip(drawn_ways(rng, HALVES, "xx", 30, 6), drawn_ways(rng, HALVES, "xx", 30, 6)):
            more = bare(behind_told(way, other))
            self.assertEqual(len(more.steps()), distance(way, other))
            self.assertIs(alike(put_behind(way, more), other), True)

    def test_side_by_side(self):
        ways = [way for way in idle_ways(66, 12)]
        for way in ways:
            for other in ways:
                if way.book() == other.book():
                    self.assertEqual(fewest(put_beside(way, other)), fewest(way) + fewest(other))
            self.assertEqual(fewest(Way(way.book(), way.end(), way_told_back(way))), fewest(way))


class ErrorsTest(unittest.TestCase):
    def test_bad_way_then_bad_other(self):
        way = Way(DOUBLES, "xx", [(0, 0, "on")])
        others = anything() + [Way(HALVES, "xx", []), Way(DOUBLES, "x", []), Way(DOUBLES, "", [])]
        for thing in others:
            if not isinstance(thing, Way):
                for call, more in ((alike, (None,)), (distance, (None,)), (fewest, ())):
                    error = raised(call, thing, *more)
                    self.assertIs(type(error), BadWay)
                    self.assertIs(error.thing, thing)
            for call in (alike, distance):
                error = raised(call, way, thing)
                self.assertIs(type(error), BadOther)
                self.assertIs(error.thing, thing)


if __name__ == "__main__":
    unittest.main()
