"""[18], [22]: what hangs on what, and orders."""

import itertools
import math
import random
import unittest

from tests.helpers import DOUBLES, HALVES, RING, TWINS, anything, lists_within, raised, sample_ways
from tests.test_pictures import exchange_class
from waysback.books import Book
from waysback.errors import BadNumber, BadOrder, BadWay
from waysback.hangings import hangs, order_at, order_number, orders_count, reordered
from waysback.pictures import leftmost
from waysback.ways import Way
from waysback.wiring import wires

FORK = Way(DOUBLES, "x", [(0, 0, "on"), (0, 0, "on"), (2, 0, "on")])
TWELVE = Way(Book([("x", "y")]), "x" * 12, [(place, 0, "on") for place in (5, 3, 11, 0, 1, 2, 4, 6, 10, 7, 9, 8)])


def hangs_told(way):
    """What hangs has to tell, by following wires from box to box."""
    pairs = wires(way)
    told = []
    for taken, _ in pairs:
        found = set()
        wanted = set(taken)
        while wanted:
            more = {index for index, (_, given) in enumerate(pairs) if wanted & set(given)} - found
            found |= more
            wanted = {wire for index in more for wire in pairs[index][0]}
        told.append(sorted(found))
    return told


def all_orders(way):
    """All orders of way ascending, by trying all rows of its steps."""
    hung = hangs_told(way)
    return [list(row) for row in itertools.permutations(range(len(hung)))
            if all(row.index(other) < row.index(index) for index in row for other in hung[index])]


def small_ways():
    return [way for way in sample_ways(31, 14) if len(way.steps()) <= 6]


class HangsTest(unittest.TestCase):
    def test_on_none_on_one_on_all_and_by_others_between(self):
        self.assertEqual(hangs(Way(HALVES, "xx", [])), [])
        self.assertEqual(hangs(Way(DOUBLES, "xx", [(0, 0, "on"), (2, 0, "on")])), [[], []])
        self.assertEqual(hangs(FORK), [[], [0], [0]])
        three = Way(RING, "ab", [(0, 0, "on"), (0, 1, "on"), (1, 1, "on"), (0, 2, "on")])
        self.assertEqual(hangs(three), [[], [0], [], [0, 1]])
        self.assertEqual(hangs(Way(HALVES, "xxxx", [(0, 0, "on"), (1, 0, "on"), (0, 0, "on")])), [[], [], [0, 1]])

    def test_hangs_of_many_ways(self):
        for way in sample_ways(30, 20, 14):
            self.assertEqual(hangs(way=way), hangs_told(way))

    def test_told_lists_are_new_and_none_stands_twice(self):
        for way in sample_ways():
            found = lists_within(hangs(way)) + lists_within(hangs(way))
            self.assertEqual(len(found), len({id(thing) for thing in found}))


class OrdersTest(unittest.TestCase):
    def test_the_example(self):
        self.assertEqual(orders_count(FORK), 2)
        self.assertEqual([order_at(FORK, number) for number in range(2)], [[0, 1, 2], [0, 2, 1]])

    def test_count_each_number_and_each_order(self):
        for way in small_ways():
            orders = all_orders(way)
            self.assertEqual(orders_count(way=way), len(orders))
            for number, order in list(enumerate(orders))[:200]:
                self.assertEqual(order_at(way=way, number=number), order)
                self.assertEqual(order_number(way=way, order=order), number)
                self.assertEqual(order_number(way, tuple(order)), number)

    def test_no_steps_have_one_order(self):
        way = Way(HALVES, "xx", [])
        self.assertEqual((orders_count(way), order_at(way, 0), order_number(way, [])), (1, [], 0))
        self.assertEqual(reordered(way, []), way)
        self.assertEqual(order_number(way, ()), 0)

    def test_twelve_steps_each_two_apart(self):
        many = math.factorial(12)
        self.assertEqual(orders_count(TWELVE), many)
        self.assertEqual(order_at(TWELVE, 0), list(range(12)))
        self.assertEqual(order_at(TWELVE, many - 1), list(range(12))[::-1])
        rng = random.Random(13)
        for _ in range(20):
            order = rng.sample(range(12), 12)
            number = order_number(TWELVE, order)
            left, rank = list(range(12)), 0
            for index in order:
                rank = rank * len(left) + left.index(index)
                left.remove(index)
            self.assertEqual(number, rank)
            self.assertEqual(order_at(TWELVE, number), order)
            self.assertEqual(leftmost(reordered(TWELVE, order)), leftmost(TWELVE))
        self.assertEqual(raised(order_at, TWELVE, many).thing, many)

    def test_twelve_steps_of_other_shapes(self):
        row = Way(TWINS, "a", [(0, k % 2, ("on", "back")[k % 2]) for k in range(12)])
        self.assertEqual((orders_count(row), order_at(row, 0)), (1, list(range(12))))
        two = Way(TWINS, "aa", [(k % 2, 0, ("on", "back")[k // 2 % 2]) for k in range(12)])
        self.assertEqual(orders_count(two), math.comb(12, 6))

    def test_a_told_order_is_new_each_time(self):
        order_at(FORK, 0).clear()
        self.assertEqual(order_at(FORK, 0), [0, 1, 2])

    def test_bad_number(self):
        for way, many in ((FORK, 2), (Way(HALVES, "xx", []), 1)):
            for thing in anything() + [many, many + 1, -1, True, False, 10 ** 30, "0", [0]]:
                if not isinstance(thing, bool) and thing in range(many):
                    continue
                error = raised(order_at, way, thing)
                self.assertIs(type(error), BadNumber, repr(thing))
                self.assertIs(error.thing, thing)

    def test_bad_order(self):
        wrong = anything() + [
            [0, 1], [0, 1, 2, 3], [1, 0, 2], [2, 1, 0], [0, 1, 1], [0, 0, 1], [0, 1, 3], [0, 1, -1], [False, 1, 2],
            [0, True, 2], ["0", "1", "2"], [0, 1, None], [0, [1], 2], {0: 1, 1: 2, 2: 3}, "012", [0, 1, 10 ** 30],
            [0, 1, {}], [(0, 1, 2)],
        ]
        for thing in wrong:
            for call in (order_number, reordered):
                error = raised(call, FORK, thing)
                self.assertIs(type(error), BadOrder, repr(thing))
                self.assertIs(error.thing, thing)
        for call in (order_number, reordered):
            for thing in ([0], None, "", {}):
                self.assertIs(type(raised(call, Way(HALVES, "xx", []), thing)), BadOrder)

    def test_bad_way_first(self):
        for thing in anything():
            if not isinstance(thing, Way):
                calls = [(hangs, ()), (orders_count, ()), (order_at, (None,)), (order_number, (None,)),
                         (reordered, (None,))]
                for call, more in calls:
                    error = raised(call, thing, *more)
                    self.assertIs(type(error), BadWay)
                    self.assertIs(error.thing, thing)


class ReorderedTest(unittest.TestCase):
    def test_the_ways_to_which_exchanges_lead_each_of_one_order(self):
        for way in [way for way in small_ways() if len(way.steps()) <= 5]:
            led = [reordered(way, order) for order in all_orders(way)]
            ways = exchange_class(way)
            self.assertEqual(len(led), len(ways))
            for other in ways:
                self.assertEqual(led.count(other), 1)

    def test_each_step_at_the_place_where_its_wires_stand(self):
        way = Way(DOUBLES, "xx", [(0, 0, "on"), (2, 0, "on"), (1, 0, "on")])
        self.assertEqual(reordered(way=way, order=[1, 0, 2]).steps(), [(1, 0, "on"), (0, 0, "on"), (1, 0, "on")])
        self.assertEqual(reordered(way, (0, 2, 1)).steps(), [(0, 0, "on"), (1, 0, "on"), (3, 0, "on")])
        self.assertEqual(reordered(way, [0, 1, 2]), way)


if __name__ == "__main__":
    unittest.main()
