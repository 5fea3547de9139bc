"""[22], [26]: orders of ways of twelve steps of all shapes, held against going through all lots of steps."""

import math
import random
import unittest

from tests.helpers import BOOKS, DOUBLES, long_way, random_way
from tests.test_hangings import all_orders, hangs_told
from waysback.books import Book
from waysback.hangings import order_at, order_number, orders_count
from waysback.pieces import pieces_beside
from waysback.ways import Way

SHAPES = Book([("x", "xx"), ("xx", "x"), ("x", "x" * 10), ("xx", "xx"), ("xxx", "xxx"), ("x", "x")])

APART = Way(DOUBLES, "x" * 12, [(2 * at, 0, "on") for at in range(12)])
ROW = Way(DOUBLES, "x", [(0, 0, "on")] * 12)
# Pieces of five, of five, of two and of no steps.
SEVERAL = Way(DOUBLES, "xxxx", [
    (0, 0, "on"), (2, 0, "on"), (0, 0, "on"), (2, 0, "on"), (4, 0, "on"), (6, 0, "on"), (6, 0, "on"),
    (9, 0, "on"), (9, 0, "on"), (1, 0, "on"), (7, 0, "on"), (0, 0, "on"),
])
TREE = Way(SHAPES, "x", [(0, 2, "on")] + [(2 * at, 0, "on") for at in range(10)] + [(0, 0, "on")])
# Ten apart, one that takes of all, and one behind it.
GATHERED = Way(SHAPES, "x" * 10, [(at, 5, "on") for at in range(10)] + [(0, 2, "back"), (0, 5, "on")])
# In the middle one that hangs on all ahead of it, and on which hangs all behind it.
WAIST = Way(SHAPES, "xxx", [
    (0, 0, "on"), (2, 0, "on"), (4, 0, "on"), (0, 1, "on"), (1, 1, "on"), (2, 1, "on"), (0, 4, "on"),
    (0, 5, "on"), (1, 5, "on"), (2, 5, "on"), (2, 5, "on"), (0, 5, "on"),
])
# Neighbours hang together one by one, and none of them on all.
FENCE = Way(SHAPES, "x" * 6, [(2 * at, 0, "on") for at in range(6)] + [(1 + at, 1, "on") for at in range(5)] + [(0, 0, "on")])
# A lattice: each hangs on two neighbours ahead of it.
LATTICE = Way(SHAPES, "x" * 6, [(at, 3, "on") for at in (0, 2, 4, 1, 3, 0, 2, 4, 1, 3, 0, 2)])
TWELVE = [APART, ROW, SEVERAL, TREE, GATHERED, WAIST, FENCE, LATTICE]


class Counted:
    """The orders of a way by going through all lots of steps that can be done first."""

    def __init__(self, way):
        self.hung = [sum(1 << other for other in lot) for lot in hangs_told(way)]
        self.counts = {}

    def firsts(self, done):
        return [k for k, lot in enumerate(self.hung) if lot & done == lot and not done >> k & 1]

    def count(self, done=0):
        if done not in self.counts:
            self.counts[done] = sum(self.count(done | 1 << k) for k in self.firsts(done)) if self.firsts(done) else 1
        return self.counts[done]

    def order(self, number):
        done, told = 0, []
        while self.firsts(done):
            for k in self.firsts(done):
                if number < self.count(done | 1 << k):
                    break
                number -= self.count(done | 1 << k)
            told.append(k)
            done |= 1 << k
        return told


class OrdersTest(unittest.TestCase):
    def hold(self, way, many=12):
        plain = Counted(way)
        count = orders_count(way)
        self.assertEqual(count, plain.count())
        rng = random.Random(count)
        for number in sorted({0, 1 % count, count // 2, count - 1} | {rng.randrange(count) for _ in range(many)}):
            order = order_at(way, number)
            self.assertEqual(order, plain.order(number))
            self.assertEqual(order_number(way, order), number)

    def test_of_each_shape(self):
        for way in TWELVE:
            self.assertEqual(len(way.steps()), 12)
            self.hold(way)
        self.assertEqual([len(piece.steps()) for piece in pieces_beside(SEVERAL)], [5, 5, 2, 0])
        self.assertTrue(all(len(pieces_beside(way)) == 1 for way in (TREE, GATHERED, WAIST, FENCE, LATTICE)))

    def test_the_issues_way(self):
        self.assertEqual(orders_count(APART), math.factorial(12))
        self.assertEqual(order_at(APART, 479001599), list(range(12))[::-1])
        self.assertEqual(order_number(APART, list(range(12))[::-1]), 479001599)

    def test_one_row(self):
        self.assertEqual((orders_count(ROW), order_at(ROW, 0), order_number(ROW, list(range(12)))), (1, list(range(12)), 0))

    def test_of_twelve_steps_drawn(self):
        rng = random.Random(190)
        for number in range(60):
            book = ([SHAPES] * 3 + BOOKS)[number % 9]
            letters = "x" if book == SHAPES else "xab"
            word = "".join(rng.choice(letters) for _ in range(rng.randrange(1, 9)))
            self.hold(random_way(rng, book, word, 12, 30), 4)
        for word in ("x", "xx", "xxxx"):
            self.hold(long_way(SHAPES, word, 12, 30), 4)

    def test_against_all_orders_of_up_to_six_steps(self):
        rng = random.Random(191)
        for number in range(60):
            way = random_way(rng, SHAPES, "x" * (1 + number % 5), rng.randrange(7), 14)
            orders = all_orders(way)
            self.assertEqual(orders_count(way), len(orders))
            for at in range(0, len(orders), 1 + len(orders) // 40):
                self.assertEqual(order_at(way, at), orders[at])
                self.assertEqual(order_number(way, orders[at]), at)


if __name__ == "__main__":
    unittest.main()
