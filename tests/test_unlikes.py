"""[31]: papers by which ways are unlike."""

import random
import unittest

from tests.helpers import DOUBLES, HALVES, OTHER_KINDS, RING, SWAPS, TWINS, anything, as_lists, as_tuples
from tests.helpers import drawn_ways, lists_within, raised, ways_from
from tests.oracles import bare_told
from tests.test_idles import idle_ways
from waysback.errors import BadOther, BadWay
from waysback.idles import bare, is_bare
from waysback.moves import moved, moves
from waysback.pictures import leftmost
from waysback.unlikes import unlike_paper, unlike_wrong
from waysback.ways import Way

WAY = Way(DOUBLES, "xx", [(1, 0, "on"), (0, 0, "on"), (0, 0, "back")])
OTHER = Way(DOUBLES, "xx", [(0, 0, "on"), (2, 0, "on")])


def led(way, told):
    for move in told:
        way = moved(way, move)
    return way


class UnlikePaperTest(unittest.TestCase):
    def test_just_one_of_both_papers_is_there(self):
        rng = random.Random(80)
        for book, word in ((HALVES, "xx"), (DOUBLES, "x"), (TWINS, "aa"), (RING, "ab"), (SWAPS, "ab")):
            ways = ways_from(book, word, 3)[-15:] + drawn_ways(rng, book, word, 10, 6)
            for way in ways:
                for other in ways:
                    paper = unlike_paper(way=way, other=other)
                    self.assertIs(paper is None, moves(way, other) is not None)
                    self.assertIs(paper is None, bare_told(way) == bare_told(other))
                    if paper is not None:
                        self.assertIsNone(unlike_wrong(way, other, paper))

    def test_both_are_led_to_their_bare_ways(self):
        for way in idle_ways(81):
            for other in idle_ways(82):
                if way.book() == other.book() and way.word() == other.word() and bare(way) != bare(other):
                    paper = unlike_paper(way, other)
                    self.assertIs(type(paper), tuple)
                    self.assertEqual((led(way, paper[0]), led(other, paper[1])), (bare(way), bare(other)))

    def test_told_lists_are_new_and_two(self):
        same = Way(DOUBLES, "xx", [(0, 0, "on"), (0, 0, "back")])
        for pair in ((WAY, same), (OTHER, Way(DOUBLES, "xx", []))):
            paper = unlike_paper(*pair)
            found = lists_within(paper) + lists_within(unlike_paper(*pair))
            self.assertEqual(len({id(thing) for thing in found}), 4)
            paper[0].append(None)
            self.assertIsNone(unlike_wrong(*pair, unlike_paper(*pair)))


class UnlikeWrongTest(unittest.TestCase):
    def test_right_ones(self):
        right = ([("strike", 1)], [])
        for thing in (right, as_lists(right), as_tuples(right), ([("exchange", 0), ("exchange", 0), ("strike", 1)], ())):
            self.assertIsNone(unlike_wrong(way=WAY, other=OTHER, thing=thing))

    def test_form(self):
        things = anything() + [([],), ([], [], []), ([], None), (None, []), ("", ""), ([], ""), [[], 0], {0: [], 1: []}]
        for thing in things:
            self.assertEqual(unlike_wrong(WAY, OTHER, thing), ("form",), repr(thing))

    def test_the_first_wrong_move_of_each(self):
        right = [("strike", 1)]
        for thing in OTHER_KINDS + ["", (), ("strike", 0), ("exchange", 1), ("exchange", 2), ("put", 0)]:
            self.assertEqual(unlike_wrong(WAY, OTHER, ([thing], [None])), ("move", 0, 0))
            self.assertEqual(unlike_wrong(WAY, OTHER, (right + [thing], [None])), ("move", 0, 1))
        for thing in OTHER_KINDS + ["", (), ("strike", 0), ("exchange", 1), ("put", 0)]:
            self.assertEqual(unlike_wrong(WAY, OTHER, (right, [thing])), ("move", 1, 0))
            self.assertEqual(unlike_wrong(WAY, OTHER, (right, [("exchange", 0), thing, None])), ("move", 1, 1))

    def test_not_bare_or_not_in_the_leftmost_order(self):
        right = [("strike", 1)]
        self.assertEqual(unlike_wrong(WAY, OTHER, ([], [None])), ("bare", 0))
        self.assertEqual(unlike_wrong(WAY, OTHER, (right, [("exchange", 0)])), ("bare", 1))
        self.assertEqual(unlike_wrong(WAY, OTHER, (right, [("put", 2, (0, 0, "on"))])), ("bare", 1))
        self.assertEqual(unlike_wrong(OTHER, WAY, ([], [])), ("bare", 1))
        apart = Way(DOUBLES, "xx", [(1, 0, "on"), (0, 0, "on")])
        self.assertTrue(is_bare(apart) and leftmost(apart) != apart)
        self.assertEqual(unlike_wrong(apart, WAY, ([], None)), ("form",))
        self.assertEqual(unlike_wrong(apart, WAY, ([], [])), ("bare", 0))
        self.assertIsNone(unlike_wrong(apart, WAY, ([("exchange", 0)], right)))

    def test_the_same(self):
        self.assertEqual(unlike_wrong(OTHER, OTHER, ([], [])), ("same",))
        apart = Way(DOUBLES, "xx", [(1, 0, "on"), (0, 0, "on")])
        self.assertEqual(unlike_wrong(apart, OTHER, ([("exchange", 0)], [])), ("same",))
        self.assertEqual(unlike_wrong(apart, OTHER, ([], [])), ("bare", 0))

    def test_bad_way_then_bad_other(self):
        for thing in anything():
            for call, more in ((unlike_paper, ()), (unlike_wrong, (None,))):
                if not isinstance(thing, Way):
                    error = raised(call, thing, None, *more)
                    self.assertIs(type(error), BadWay)
                    self.assertIs(error.thing, thing)
                if not isinstance(thing, Way) or thing.word() != "xx" or thing.book() != DOUBLES:
                    error = raised(call, WAY, thing, *more)
                    self.assertIs(type(error), BadOther)
                    self.assertIs(error.thing, thing)


if __name__ == "__main__":
    unittest.main()
