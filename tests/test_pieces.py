"""[24], [25]: pieces side by side, and one below another."""

import math
import unittest

from tests.helpers import BOOKS, DOUBLES, HALVES, MIXED, RING, TWINS, anything, lists_within, raised, sample_ways
from tests.oracles import boxes_by_step
from waysback.books import Book
from waysback.errors import BadWay
from waysback.exchanges import exchanged, is_apart
from waysback.goings import put_behind, put_beside
from waysback.hangings import hangs, orders_count
from waysback.pictures import leftmost
from waysback.pieces import pieces_below, pieces_beside
from waysback.ways import Way

WIDE = Book([("aaa", "bb"), ("b", "cc"), ("ca", "d"), ("cc", "a")])


def pieces_told(way):
    """The sets of letters of way's word that hang together by boxes, told by joining sets."""
    lots = [{wire} for wire in range(len(way.word()))]
    for _, _, taken, given in boxes_by_step(way):
        joined = set(given)
        for lot in [lot for lot in lots if lot & set(taken)]:
            joined |= lot
            lots.remove(lot)
        lots.append(joined)
    letters = set(range(len(way.word())))
    return sorted(sorted(lot & letters) for lot in lots)


def beside_all(ways, book):
    told = Way(book, "", [])
    for way in ways:
        told = put_beside(told, way)
    return told


class BesideTest(unittest.TestCase):
    def test_the_example(self):
        way = Way(DOUBLES, "xx", [(0, 0, "on"), (2, 0, "on")])
        one = Way(DOUBLES, "x", [(0, 0, "on")])
        self.assertEqual(pieces_beside(way=way), [one, one])

    def test_none_one_and_several(self):
        for book in BOOKS:
            self.assertEqual(pieces_beside(Way(book, "", [])), [])
            self.assertEqual(pieces_beside(Way(book, "abx", [])), [Way(book, letter, []) for letter in "abx"])
        one = Way(HALVES, "xxx", [(0, 0, "on"), (0, 0, "on"), (0, 0, "back")])
        self.assertEqual(pieces_beside(one), [one])
        three = Way(WIDE, "caaaab", [(1, 0, "on"), (4, 1, "on"), (1, 1, "on")])
        self.assertEqual(pieces_beside(three), [
            Way(WIDE, "c", []), Way(WIDE, "aaa", [(0, 0, "on"), (0, 1, "on")]),
            Way(WIDE, "a", []), Way(WIDE, "b", [(0, 1, "on")]),
        ])

    def test_boxes_that_hang_together_by_others_alone(self):
        # Both splits come into one piece only by what takes of each.
        steps = [(0, 1, "on"), (3, 1, "on"), (5, 1, "on"), (4, 3, "on"), (5, 2, "on")]
        words = [["b", "x", "b", "b", "a"], ["b", "x", "bb", "a"], ["b", "x", "bba"]]
        for many, told in zip((3, 4, 5), words):
            way = Way(WIDE, "bxbba", steps[:many])
            self.assertEqual([piece.word() for piece in pieces_beside(way)], told)

    def test_words_and_leftmost_way_of_many(self):
        for way in sample_ways(40, 25, 12):
            pieces = pieces_beside(way)
            self.assertEqual("".join(piece.word() for piece in pieces), way.word())
            self.assertEqual(beside_all(pieces, way.book()), leftmost(way))
            for piece in pieces:
                self.assertEqual(leftmost(piece), piece)
                self.assertEqual(len(pieces_told(piece)), 1)
            starts = [sum(map(len, (piece.word() for piece in pieces[:at]))) for at in range(len(pieces))]
            self.assertEqual([lot[0] for lot in pieces_told(way)], starts)
            self.assertEqual([len(lot) for lot in pieces_told(way)], [len(piece.word()) for piece in pieces])

    def test_the_same_for_each_order_of_the_steps(self):
        for way in sample_ways(41, 12):
            for index in range(len(way.steps()) - 1):
                if is_apart(way, index):
                    self.assertEqual(pieces_beside(exchanged(way, index)), pieces_beside(way))

    def test_orders_are_those_of_the_pieces_mixed(self):
        for way in sample_ways(42, 20, 9):
            pieces = pieces_beside(way)
            counted = math.factorial(len(way.steps()))
            for piece in pieces:
                counted = counted // math.factorial(len(piece.steps())) * orders_count(piece)
            self.assertEqual(orders_count(way), counted)


class BelowTest(unittest.TestCase):
    def test_the_example(self):
        way = Way(DOUBLES, "x", [(0, 0, "on"), (0, 0, "on"), (2, 0, "on")])
        above = Way(DOUBLES, "x", [(0, 0, "on")])
        self.assertEqual(pieces_below(way=way), [above, Way(DOUBLES, "xx", [(0, 0, "on"), (2, 0, "on")])])

    def test_cut_nowhere_is_told_alone(self):
        for book in BOOKS:
            for word in ("", "ab", "x"):
                self.assertEqual(pieces_below(Way(book, word, [])), [Way(book, word, [])])
        one = Way(RING, "ab", [(0, 0, "on")])
        two = Way(RING, "ab", [(1, 1, "on"), (0, 0, "on")])
        self.assertEqual((pieces_below(one), pieces_below(two)), ([one], [two]))

    def test_cut_at_each_index(self):
        way = Way(RING, "ab", [(0, 0, "on"), (0, 1, "on"), (0, 1, "back"), (0, 1, "on")])
        self.assertEqual([piece.steps() for piece in pieces_below(way)], [[step] for step in way.steps()])
        self.assertEqual([piece.word() for piece in pieces_below(way)], ["ab", "bb", "cb", "bb"])

    def test_cuts_of_many(self):
        for way in sample_ways(43, 25, 12):
            hung = hangs(way)
            many = len(hung)
            cuts = [index for index in range(1, many)
                    if all(set(range(index)) <= set(hung[later]) for later in range(index, many))]
            expected = [
                Way(way.book(), way.words()[start], way.steps()[start:stop])
                for start, stop in zip([0] + cuts, cuts + [many])
            ]
            self.assertEqual(pieces_below(way), expected)

    def test_steps_keep_their_order(self):
        way = Way(DOUBLES, "x", [(0, 0, "on"), (1, 0, "on"), (0, 0, "on")])
        self.assertEqual([piece.steps() for piece in pieces_below(way)], [[(0, 0, "on")], [(1, 0, "on"), (0, 0, "on")]])

    def test_one_picture_is_cut_at_one_place(self):
        for way in sample_ways(44, 12):
            here = [(piece.word(), len(piece.steps())) for piece in pieces_below(way)]
            there = [(piece.word(), len(piece.steps())) for piece in pieces_below(leftmost(way))]
            self.assertEqual(here, there)

    def test_orders_are_the_product_and_the_pieces_lead_on(self):
        for way in sample_ways(45, 20, 9):
            pieces = pieces_below(way)
            self.assertEqual(orders_count(way), math.prod(orders_count(piece) for piece in pieces))
            whole = pieces[0]
            for piece in pieces[1:]:
                whole = put_behind(whole, piece)
            self.assertEqual(whole, way)


class BadWayTest(unittest.TestCase):
    def test_bad_way(self):
        for thing in anything():
            if not isinstance(thing, Way):
                for call in (pieces_beside, pieces_below):
                    error = raised(call, thing)
                    self.assertIs(type(error), BadWay)
                    self.assertIs(error.thing, thing)

    def test_told_lists_are_new(self):
        for way in (Way(MIXED, "ab", []), Way(TWINS, "aa", [(0, 0, "on"), (0, 1, "back")])):
            for call in (pieces_beside, pieces_below):
                lists_within(call(way))[0].clear()
                self.assertNotEqual(call(way), [])


if __name__ == "__main__":
    unittest.main()
