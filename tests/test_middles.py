"""[40], [41]: what lies between bare pictures, and the one middle of three."""

import itertools
import random
import unittest

from tests.helpers import DOUBLES, HALVES, RING, TWINS, anything, drawn_ways, raised, random_way, ways_from
from tests.oracles import bare_told, behind_told, beginnings_told, event_keys, key
from tests.test_beginnings import PLACES
from tests.test_events import FORK, P, Q
from waysback.beginnings import beginnings_count
from waysback.books import Book
from waysback.errors import BadOther, BadThird, BadWay
from waysback.goings import put_behind
from waysback.idles import bare
from waysback.joins import joined
from waysback.likeness import alike, distance
from waysback.middles import between_count, is_between, middle
from waysback.ways import Way

R = Way(FORK, "aa", [(0, 0, "on"), (1, 0, "on")])


class BetweenTest(unittest.TestCase):
    def test_by_distances_in_each_order(self):
        rng = random.Random(120)
        found = [0, 0]
        for book, word in PLACES:
            ways = drawn_ways(rng, book, word, 9, 5)
            ways += [middle(*rng.sample(ways, 3)) for _ in range(4)]
            for way, other, third in itertools.product(ways, repeat=3):
                far = distance(way, third) + distance(third, other) == distance(way, other)
                self.assertIs(is_between(way=way, other=other, third=third), far)
                found[far] += 1
        self.assertGreater(min(found), 500)

    def test_ends_lie_between_and_ways_stand_for_their_bare_pictures(self):
        idle = Way(FORK, "aa", [(1, 1, "on"), (0, 0, "on"), (1, 1, "back")])
        self.assertIs(is_between(idle, Q, P), True)
        self.assertIs(is_between(P, Q, idle), True)
        self.assertIs(is_between(P, P, idle), True)
        self.assertIs(is_between(P, P, R), False)
        self.assertIs(is_between(P, Q, R), True)

    def test_count_by_going_through_small_ones(self):
        for book, word, many in ((HALVES, "xx", 4), (DOUBLES, "x", 4), (TWINS, "aa", 4), (RING, "ab", 4), (FORK, "aa", 4)):
            lot = {key(bare(way)): bare(way) for way in ways_from(book, word, many)}
            lot = list(lot.values())
            short = [way for way in lot if len(way.steps()) <= 2]
            for way in short[:8]:
                for other in short[-8:]:
                    expected = [third for third in lot if is_between(way, other, third)]
                    self.assertEqual(between_count(way=way, other=other), len(expected))

    def test_count_is_that_of_the_beginnings_of_the_way_between(self):
        rng = random.Random(121)
        for book, word in PLACES:
            ways = drawn_ways(rng, book, word, 8, 6)
            for way in ways:
                for other in ways:
                    between = bare_told(behind_told(way, other))
                    many = between_count(way, other)
                    self.assertEqual(many, len(beginnings_told(between)))
                    self.assertEqual(many, between_count(other, way))
                    self.assertEqual(between_count(Way(book, word, []), other), beginnings_count(other))
                self.assertEqual(between_count(way, bare(way)), 1)


class MiddleTest(unittest.TestCase):
    def test_the_example(self):
        for three in itertools.permutations((P, Q, R)):
            self.assertEqual(middle(*three), R)

    def test_of_three_in_each_order(self):
        rng = random.Random(122)
        for book, word in PLACES:
            ways = drawn_ways(rng, book, word, 9, 6)
            for three in itertools.combinations(ways, 3):
                keys = [event_keys(way) for way in three]
                expected = keys[0] & keys[1] | keys[1] & keys[2] | keys[0] & keys[2]
                told = middle(way=three[0], other=three[1], third=three[2])
                self.assertEqual(event_keys(told), expected)
                self.assertEqual(told, bare(told))
                for way, other, third in itertools.permutations(three):
                    self.assertEqual(middle(way, other, third), told)
                    self.assertIs(is_between(way, other, told), True)

    def test_no_other_way_lies_between_each_two(self):
        for book, word in ((FORK, "aa"), (HALVES, "xx"), (DOUBLES, "x")):
            lot = list({key(bare(way)): bare(way) for way in ways_from(book, word, 3)}.values())
            rng = random.Random(123)
            for _ in range(30):
                one, two, three = rng.sample(lot, 3)
                found = [way for way in lot if is_between(one, two, way)
                         and is_between(two, three, way) and is_between(one, three, way)]
                self.assertEqual(found, [middle(one, two, three)])

    def test_two_of_them_alike_or_one_a_beginning_of_another(self):
        rng = random.Random(124)
        for book, word in PLACES:
            way, other = drawn_ways(rng, book, word, 2, 6)
            for three in itertools.permutations((way, bare(way), other)):
                self.assertEqual(middle(*three), bare_told(way))
            whole = bare(way)
            begun = Way(book, word, whole.steps()[:len(whole.steps()) // 2])
            told = middle(begun, whole, other)
            self.assertEqual(event_keys(told), event_keys(begun) | (event_keys(whole) & event_keys(other)))
            self.assertEqual(joined(begun, middle(whole, other, Way(book, word, []))), ("way", told))

    def test_a_way_put_ahead_of_all_three(self):
        rng = random.Random(125)
        for book, word in PLACES:
            for _ in range(8):
                ahead = random_way(rng, book, word, rng.randrange(5), 9)
                three = drawn_ways(rng, book, ahead.end(), 3, 5, 10)
                behind = [put_behind(ahead, way) for way in three]
                self.assertIs(alike(middle(*behind), put_behind(ahead, middle(*three))), True)
                self.assertIs(is_between(*behind), is_between(*three))
                self.assertEqual(between_count(behind[0], behind[1]), between_count(three[0], three[1]))


class ErrorsTest(unittest.TestCase):
    def test_bad_way_then_bad_other_then_bad_third(self):
        same = Way(Book(FORK.rules()), "aa", [])
        for thing in anything() + [Way(FORK, "a", []), Way(HALVES, "aa", []), Way(FORK, "", [])]:
            for call, more in ((middle, (None,)), (is_between, (None,)), (between_count, ())):
                if not isinstance(thing, Way):
                    error = raised(call, thing, None, *more)
                    self.assertIs(type(error), BadWay)
                    self.assertIs(error.thing, thing)
                error = raised(call, P, thing, *more)
                self.assertIs(type(error), BadOther)
                self.assertIs(error.thing, thing)
                if more:
                    error = raised(call, P, same, thing)
                    self.assertIs(type(error), BadThird)
                    self.assertIs(error.thing, thing)


if __name__ == "__main__":
    unittest.main()
