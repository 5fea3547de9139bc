"""[35], [36]: beginnings of bare pictures."""

import math
import random
import unittest

from tests.helpers import DOUBLES, HALVES, MIXED, NO_RULES, OTHER_KINDS, RING, SWAPS, TWINS, anything
from tests.helpers import drawn_ways, raised, sample_ways
from tests.oracles import bare_told, beginnings_told, event_keys, events_told, key
from tests.test_idles import idle_ways
from waysback.books import Book
from waysback.beginnings import beginning_at, beginnings_count, common, is_beginning
from waysback.errors import BadNumber, BadOther, BadWay
from waysback.idles import bare
from waysback.likeness import distance, fewest
from waysback.pictures import boxes_of
from waysback.ways import Way

# Books and words of which ways are drawn to be compared with one another.
PLACES = ((HALVES, "xx"), (DOUBLES, "xx"), (TWINS, "ab"), (RING, "abc"), (SWAPS, "abx"), (MIXED, "abc"))


def rows_told(way):
    """The row of wires behind each beginning of a bare way, by way's own numbers, with the beginning."""
    boxes = boxes_of(way)
    rows = []
    found = [((), tuple(range(len(way.word()))))]
    for done, row in found:
        rows.append((row, done))
        for number, (_, _, taken, given) in enumerate(boxes):
            if number not in done and all(wire in row for wire in taken):
                at = row.index(taken[0])
                more = (tuple(sorted(done + (number,))), row[:at] + tuple(given) + row[at + len(taken):])
                if more not in found:
                    found.append(more)
    return rows


class TwoTest(unittest.TestCase):
    def test_beginnings_and_what_both_have(self):
        rng = random.Random(90)
        for book, word in PLACES:
            ways = drawn_ways(rng, book, word, 14, 7)
            for way in ways:
                for other in ways:
                    mine, theirs = event_keys(way), event_keys(other)
                    self.assertIs(is_beginning(way=way, other=other), mine <= theirs)
                    self.assertIs(is_beginning(way, other), distance(way, other) == fewest(other) - fewest(way))
                    told = common(way=way, other=other)
                    self.assertEqual(event_keys(told), mine & theirs)
                    self.assertEqual(told, bare(told))
                    self.assertEqual(common(other, way), told)
                    self.assertTrue(is_beginning(told, way) and is_beginning(told, other))

    def test_each_common_beginning_is_one_of_it(self):
        rng = random.Random(91)
        for book, word in PLACES:
            ways = drawn_ways(rng, book, word, 8, 6)
            for way, other in zip(ways, ways[1:]):
                mine = {key(one) for one in beginnings_told(bare(way))}
                theirs = {key(one) for one in beginnings_told(bare(other))}
                self.assertEqual({key(one) for one in beginnings_told(common(way, other))}, mine & theirs)

    def test_ways_stand_for_their_bare_pictures(self):
        for way in idle_ways(92):
            told = bare_told(way)
            none = Way(Book(way.book().rules()), way.word(), [])
            self.assertTrue(is_beginning(way, told) and is_beginning(told, way) and is_beginning(none, way))
            self.assertEqual((common(way, told), common(way, none)), (told, none))
            self.assertIs(is_beginning(way, none), told == none)

    def test_the_same_step_on_other_wires_is_another_box(self):
        one = Way(HALVES, "xxx", [(0, 0, "on")])
        other = Way(HALVES, "xxx", [(1, 0, "on"), (0, 0, "on")])
        self.assertEqual(common(one, other).steps(), [])
        self.assertIs(is_beginning(Way(TWINS, "a", [(0, 0, "on")]), Way(TWINS, "a", [(0, 1, "on")])), False)


class AllTest(unittest.TestCase):
    def test_the_example(self):
        book = Book([("a", "b"), ("a", "c")])
        way = Way(book, "aa", [(0, 1, "on"), (1, 0, "on")])
        self.assertEqual(beginnings_count(way=way), 4)
        told = [beginning_at(way=way, number=number).steps() for number in range(4)]
        self.assertEqual(told, [[], [(1, 0, "on")], [(0, 1, "on")], [(0, 1, "on"), (1, 0, "on")]])

    def test_each_number_of_many(self):
        for way in sample_ways(93, 14, 8) + idle_ways(93):
            told = bare(way)
            rows = rows_told(told)
            self.assertEqual(beginnings_count(way), len(rows))
            # Of two wires that leave one gap the upper one was there first, and has the lesser number.
            for number, (_, done) in enumerate(sorted(rows)):
                expected = set(done)
                begun = beginning_at(way, number)
                self.assertEqual(begun, bare(begun))
                self.assertTrue(is_beginning(begun, way))
                self.assertEqual(len(begun.steps()), len(expected))
                keys = [key(event) for event in events_told(told)]
                self.assertEqual(event_keys(begun), {keys[at] for at in expected})

    def test_first_no_steps_last_the_whole_and_each_once(self):
        for way in sample_ways(94, 10, 8):
            many = beginnings_count(way)
            self.assertEqual(beginning_at(way, 0), Way(way.book(), way.word(), []))
            self.assertEqual(beginning_at(way, many - 1), bare(way))
            told = {key(beginning_at(way, number)) for number in range(many)}
            self.assertEqual(told, {key(one) for one in beginnings_told(bare(way))})

    def test_no_steps_have_one(self):
        for book, word in ((NO_RULES, ""), (NO_RULES, "ab"), (HALVES, ""), (HALVES, "xx")):
            way = Way(book, word, [])
            self.assertEqual((beginnings_count(way), beginning_at(way, 0)), (1, way))
            self.assertIs(type(raised(beginning_at, way, 1)), BadNumber)

    def test_trees_and_many_steps_side_by_side(self):
        one = Book([("a", "b")])
        way = Way(one, "a" * 60, [(place, 0, "on") for place in range(60)])
        self.assertEqual(beginnings_count(way), 2 ** 60)
        # No steps at the first letters, and all at the last ones; the leftmost letters count most.
        for number in (0, 1, 2 ** 59, 2 ** 60 - 1, 0b1011 << 50, 123456789012345678):
            bits = f"{number:060b}"
            expected = [(place, 0, "on") for place in range(60) if bits[place] == "1"]
            self.assertEqual(beginning_at(way, number).steps(), expected)
        tree = Way(DOUBLES, "x", [])
        counts = [1]
        for depth in range(1, 6):
            # All letters are split at once, from the right.
            word = tree.end()
            tree = Way(DOUBLES, "x", tree.steps() + [(place, 0, "on") for place in reversed(range(len(word)))])
            counts.append(1 + counts[-1] ** 2)
        self.assertEqual(beginnings_count(tree), counts[-1])
        many = counts[-1]
        for number in (0, 1, many // 3, many - 2, many - 1):
            self.assertTrue(is_beginning(beginning_at(tree, number), tree))
        self.assertEqual(len(beginning_at(tree, many - 1).steps()), 31)
        self.assertEqual(beginning_at(tree, 1).steps(), [(0, 0, "on")])

    def test_counts_of_pieces_beside_are_multiplied(self):
        rng = random.Random(95)
        for _ in range(20):
            ways = [bare(way) for way in drawn_ways(rng, DOUBLES, "x", 3, 6)]
            whole = Way(DOUBLES, "xxx", [])
            steps = []
            aside = 0
            for way in ways:
                steps += [(place + aside, rule, turn) for place, rule, turn in way.steps()]
                aside += len(way.end())
            whole = Way(DOUBLES, "xxx", steps)
            self.assertEqual(beginnings_count(whole), math.prod(beginnings_count(way) for way in ways))

    def test_numbers_beyond_and_no_numbers(self):
        way = Way(DOUBLES, "xx", [(0, 0, "on"), (2, 0, "on")])
        for thing in OTHER_KINDS + ["", "0", [], [0], (0,), way, HALVES, 4, 5, 10 ** 40, -1]:
            if not (type(thing) is int and 0 <= thing < 4):
                error = raised(beginning_at, way, thing)
                self.assertIs(type(error), BadNumber, repr(thing))
                self.assertIs(error.thing, thing)




class ErrorsTest(unittest.TestCase):
    def test_bad_way_then_bad_other(self):
        way = Way(DOUBLES, "xx", [(0, 0, "on")])
        for thing in anything() + [Way(DOUBLES, "x", []), Way(HALVES, "xx", [])]:
            if not isinstance(thing, Way):
                calls = ((is_beginning, (None,)), (common, (None,)), (beginnings_count, ()), (beginning_at, (None,)))
                for call, more in calls:
                    error = raised(call, thing, *more)
                    self.assertIs(type(error), BadWay)
                    self.assertIs(error.thing, thing)
            for call in (is_beginning, common):
                error = raised(call, way, thing)
                self.assertIs(type(error), BadOther)
                self.assertIs(error.thing, thing)


if __name__ == "__main__":
    unittest.main()
