"""[27], [28]: idle pairs, and the one bare picture."""

import random
import unittest

from tests.helpers import BOOKS, DOUBLES, HALVES, MIXED, RING, TWINS, anything, lists_within, raised, sample_ways
from tests.helpers import random_way, way_told_back, ways_from
from tests.oracles import bare_told, pairs_told, struck_told
from waysback.errors import BadPair, BadWay
from waysback.exchanges import exchanged, is_apart
from waysback.goings import put_beside, steps_at
from waysback.idles import bare, idle_pairs, is_bare, struck
from waysback.pictures import leftmost, same_picture
from waysback.ways import Way

# Three boxes of one rule in a row; two pairs side by side; a pair with steps of its neighbours between.
ROW = Way(RING, "a", [(0, 0, "on"), (0, 0, "back"), (0, 0, "on"), (0, 1, "on")])
BESIDE = Way(DOUBLES, "xx", [(0, 0, "on"), (2, 0, "on"), (2, 0, "back"), (0, 0, "back")])
BETWEEN = Way(HALVES, "xxxx", [(0, 0, "back"), (3, 0, "on"), (0, 0, "on"), (0, 0, "on")])


def idle_ways(seed=50, many=40):
    """Ways in which much is idle: steps put in there and back, and brought apart by exchanges."""
    rng = random.Random(seed)
    ways = []
    for number in range(many):
        way = random_way(rng, BOOKS[number % len(BOOKS)], rng.choice(["xx", "ab", "xab", "aaa"]), 4, 9)
        for _ in range(number % 4):
            at = rng.randrange(len(way.steps()) + 1)
            aside = random_way(rng, way.book(), way.words()[at], rng.randrange(1, 3), 12)
            steps = way.steps()[:at] + aside.steps() + way_told_back(aside) + way.steps()[at:]
            way = Way(way.book(), way.word(), steps)
        for _ in range(20):
            index = rng.randrange(max(1, len(way.steps())))
            if index + 1 < len(way.steps()) and is_apart(way, index):
                way = exchanged(way, index)
        ways.append(way)
    return ways


class IdlePairsTest(unittest.TestCase):
    def test_none_one_side_by_side_and_in_a_row(self):
        self.assertEqual(idle_pairs(way=Way(HALVES, "xx", [])), [])
        self.assertEqual(idle_pairs(Way(HALVES, "xx", [(0, 0, "back"), (2, 0, "back"), (0, 0, "on")])), [(0, 2)])
        self.assertEqual(idle_pairs(ROW), [(0, 1), (1, 2)])
        self.assertEqual(idle_pairs(BESIDE), [(0, 3), (1, 2)])
        self.assertEqual(idle_pairs(BETWEEN), [(0, 2)])

    def test_all_wires_in_their_order_of_one_rule_and_other_turns(self):
        # The second takes one wire that the first gives, and another one.
        self.assertEqual(idle_pairs(Way(HALVES, "xx", [(0, 0, "back"), (1, 0, "on")])), [])
        # Two rules that are alike are two; a rule of two like sides goes the same way twice.
        self.assertEqual(idle_pairs(Way(TWINS, "a", [(0, 0, "on"), (0, 1, "back")])), [])
        self.assertEqual(idle_pairs(Way(MIXED, "c", [(0, 4, "on"), (0, 4, "on"), (0, 4, "back")])), [(1, 2)])

    def test_pairs_of_many(self):
        for way in sample_ways(51, 15, 12) + idle_ways():
            self.assertEqual(idle_pairs(way), pairs_told(way))
            self.assertIs(is_bare(way=way), pairs_told(way) == [])

    def test_each_pair_struck(self):
        for way in idle_ways(52):
            for pair in idle_pairs(way):
                told = struck(way=way, pair=pair)
                self.assertEqual(told, struck_told(way, pair))
                self.assertEqual(leftmost(told), told)
                self.assertEqual(struck(way, list(pair)), told)
        self.assertEqual(struck(ROW, (0, 1)).steps(), [(0, 0, "on"), (0, 1, "on")])
        self.assertEqual(struck(BETWEEN, (0, 2)).steps(), [(0, 0, "on"), (1, 0, "on")])
        self.assertEqual(struck(BESIDE, (1, 2)).steps(), [(0, 0, "on"), (0, 0, "back")])

    def test_bad_pair_of_any_object_that_is_none_of_them(self):
        things = anything() + [
            (1, 0), (3, 0), (0, 0), (0, 1), (1, 3), (2, 3), (0, 3, 0), (0,), (0, 4), (-1, 3), (False, 3), (0, "3"),
            (True, 2), (1, [2]), ([0], [3]), ((0, 3),), {0: 3}, "03", (10 ** 20, 2), (None, None), [(1, 2)],
        ]
        for thing in things:
            error = raised(struck, BESIDE, thing)
            self.assertIs(type(error), BadPair, repr(thing))
            self.assertIs(error.thing, thing)
        for thing in [(0, True), (False, 1), (False, True), (True, 2)]:
            self.assertIs(type(raised(struck, ROW, thing)), BadPair)
        for thing in [(0, 1), (1, 0)]:
            self.assertIs(type(raised(struck, Way(TWINS, "a", [(0, 0, "on"), (0, 1, "back")]), thing)), BadPair)

    def test_bad_way_ahead_of_bad_pair(self):
        for thing in anything():
            if not isinstance(thing, Way):
                for call, more in ((idle_pairs, ()), (struck, (None,)), (bare, ()), (is_bare, ())):
                    error = raised(call, thing, *more)
                    self.assertIs(type(error), BadWay)
                    self.assertIs(error.thing, thing)


class BareTest(unittest.TestCase):
    def test_the_examples(self):
        way = Way(HALVES, "xx", [(0, 0, "back"), (2, 0, "back"), (0, 0, "on")])
        self.assertEqual(bare(way=way).steps(), [(1, 0, "back")])
        self.assertIs(is_bare(Way(TWINS, "a", [(0, 0, "on"), (0, 1, "back")])), True)

    def hold_one_end(self, way):
        """Strikes in every order; the one way that is left, always by as many strikings."""
        ends, known, line = [], {}, [(way, 0)]
        for one, many in line:
            text = (tuple(one.steps()), many)
            if text not in known:
                known[text] = True
                pairs = pairs_told(one)
                line.extend((struck_told(one, pair), many + 1) for pair in pairs)
                if not pairs:
                    ends.append((leftmost(one), many))
        self.assertTrue(all(end == ends[0] for end in ends))
        return ends[0]

    def test_struck_in_every_order(self):
        for way in idle_ways(53, 60) + [ROW, BESIDE, BETWEEN]:
            end, many = self.hold_one_end(way)
            self.assertEqual(bare(way), end)
            self.assertEqual(len(way.steps()) - 2 * many, len(bare(way).steps()))

    def test_small_ways_of_small_books(self):
        for book, word in ((HALVES, "xx"), (DOUBLES, "x"), (TWINS, "aa"), (RING, "ab")):
            for way in ways_from(book, word, 3):
                self.assertEqual(bare(way), bare_told(way))

    def test_steps_put_in_there_and_back_leave_it(self):
        rng = random.Random(54)
        for way in idle_ways(55):
            told = bare(way)
            self.assertEqual((bare(told), is_bare(told), leftmost(told)), (told, True, told))
            at = rng.randrange(len(way.steps()) + 1)
            word = way.words()[at]
            for step in steps_at(way.book(), word)[:3]:
                aside = Way(way.book(), word, [step])
                steps = way.steps()[:at] + aside.steps() + way_told_back(aside) + way.steps()[at:]
                self.assertEqual(bare(Way(way.book(), way.word(), steps)), told)

    def test_bare_already_is_told_in_the_leftmost_order(self):
        way = Way(DOUBLES, "xx", [(1, 0, "on"), (0, 0, "on")])
        self.assertIs(is_bare(way), True)
        self.assertEqual(bare(way).steps(), [(0, 0, "on"), (2, 0, "on")])
        for one in sample_ways(56):
            self.assertIs(is_bare(one), same_picture(one, bare(one)))

    def test_what_holds_of_ways_gone_back_cut_and_side_by_side(self):
        ways = idle_ways(57, 30)
        for way in ways:
            told = bare(way)
            self.assertEqual((len(way.steps()) - len(told.steps())) % 2, 0)
            back = Way(way.book(), way.end(), way_told_back(way))
            self.assertEqual(bare(back), leftmost(Way(way.book(), told.end(), way_told_back(told))))
            for cut in range(len(told.steps()) + 1):
                first = Way(way.book(), way.word(), told.steps()[:cut])
                self.assertTrue(is_bare(first))
                self.assertTrue(is_bare(Way(way.book(), first.end(), told.steps()[cut:])))
            for other in ways:
                if other.book() == way.book():
                    self.assertEqual(bare(put_beside(way, other)), put_beside(told, bare(other)))

    def test_told_lists_are_new(self):
        lists_within(idle_pairs(ROW))[0].clear()
        self.assertEqual(idle_pairs(ROW), [(0, 1), (1, 2)])


if __name__ == "__main__":
    unittest.main()
