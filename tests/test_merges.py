"""[42]: merges of lines, and boxes struck out."""

import itertools
import random
import unittest

from tests.helpers import HALVES, MIXED, OTHER_KINDS, RING, anything, raised, random_way, sample_ways
from tests.oracles import bare_told, behind_told, closed_told, event_keys, part_told
from tests.test_beginnings import PLACES
from tests.test_events import FORK, P
from tests.test_idles import idle_ways
from waysback.beginnings import is_beginning
from waysback.books import Book
from waysback.errors import BadIndex, BadLines, BadWay
from waysback.events import at_odds
from waysback.goings import put_behind
from waysback.hangings import hangs
from waysback.idles import bare
from waysback.joins import joined
from waysback.likeness import alike, distance
from waysback.merges import merged, struck_out
from waysback.middles import is_between, middle
from waysback.pictures import boxes_of
from waysback.ways import Way


def line_sets():
    """Bases, each with several lines that begin like it or otherwise."""
    rng = random.Random(130)
    for book, word in PLACES:
        for _ in range(12):
            base = random_way(rng, book, word, rng.randrange(5), 9)
            lines = []
            for _ in range(3):
                begun = Way(book, word, base.steps()[:rng.choice([0, 3, 9, 9])])
                lines.append(put_behind(begun, random_way(rng, book, begun.end(), rng.randrange(1, 3), 10)))
            yield base, lines


def change(base, line):
    return bare(behind_told(base, line))


class MergedTest(unittest.TestCase):
    def test_of_no_line_and_of_one(self):
        for base in idle_ways(131):
            self.assertEqual(merged(base=base, lines=[]), ("way", bare_told(base)))
            self.assertEqual(merged(base, ()), ("way", bare_told(base)))
            self.assertEqual(merged(base, [base]), ("way", bare_told(base)))
        for base, lines in line_sets():
            for line in lines:
                again = Way(Book(line.book().rules()), line.word(), line.steps())
                for given in ([line], (line,), [line, line], [base, line], [line, again]):
                    self.assertEqual(merged(base, given), ("way", bare_told(line)))

    def test_least_common_going_on_of_all_changes_or_odds(self):
        kinds = set()
        for base, lines in line_sets():
            changes = [change(base, line) for line in lines]
            odds = [
                (k, l) + at_odds(changes[k], changes[l])[0]
                for k in range(3) for l in range(k + 1, 3) if at_odds(changes[k], changes[l])
            ]
            told = merged(base, lines)
            kinds.add(told[0])
            if odds:
                self.assertEqual(told, ("odds",) + odds[0])
                continue
            self.assertEqual(told[1], bare(told[1]))
            keys = event_keys(changes[0]) | event_keys(changes[1]) | event_keys(changes[2])
            self.assertEqual(event_keys(change(base, told[1])), keys)
        self.assertEqual(kinds, {"way", "odds"})

    def test_the_least_pair_of_lines(self):
        base = Way(FORK, "aaa", [])
        lines = [Way(FORK, "aaa", [step]) for step in ((2, 0, "on"), (0, 0, "on"), (1, 0, "on"), (1, 1, "on"), (0, 1, "on"))]
        self.assertEqual(merged(base, lines), ("odds", 1, 4, 0, 0))
        self.assertEqual(merged(base, lines[:4]), ("odds", 2, 3, 0, 0))
        both = Way(FORK, "aaa", [(0, 1, "on"), (1, 1, "on"), (2, 0, "on")])
        self.assertEqual(merged(base, [both, lines[2], lines[1]]), ("odds", 0, 1, 1, 0))
        self.assertEqual(merged(base, lines[:3])[1].steps(), [(0, 0, "on"), (1, 0, "on"), (2, 0, "on")])

    def test_in_every_order_and_by_twos(self):
        for base, lines in line_sets():
            kinds = set()
            for order in itertools.permutations(lines):
                told = merged(base, list(order))
                kinds.add(told[0])
                by_twos = merged(base, order[:2])
                if by_twos[0] == "way":
                    by_twos = merged(base, [by_twos[1], order[2]])
                self.assertEqual(by_twos[0], told[0])
                if told[0] == "way":
                    self.assertEqual((by_twos, told), (told, merged(base, lines)))
            self.assertEqual(len(kinds), 1)

    def test_opposite_ends_of_what_lies_between_two_lines(self):
        for base, lines in line_sets():
            first, second = lines[:2]
            told = merged(base, [first, second])
            if told[0] == "way":
                for line in (first, second):
                    self.assertTrue(is_between(base, told[1], line))
                self.assertTrue(is_between(first, second, told[1]))
                between = middle(base, first, second)
                far = distance(first, second)
                self.assertEqual(distance(between, told[1]), far)
                self.assertEqual(joined(change(base, first), change(base, second))[0], "way")

    def test_no_steps_as_the_base_joins(self):
        for base, lines in line_sets():
            none = Way(base.book(), base.word(), [])
            told, expected = merged(none, lines[:2]), joined(lines[0], lines[1])
            self.assertEqual(told, expected if expected[0] == "way" else ("odds", 0, 1) + expected[1:])

    def test_bad_lines_at_the_first_thing_that_is_none(self):
        for thing in OTHER_KINDS + ["", "ab", P, FORK, {0: P}]:
            error = raised(merged, P, thing)
            self.assertIs(type(error), BadLines)
            self.assertEqual(error.index, 0)
        for thing in anything() + [Way(FORK, "a", []), Way(HALVES, "aa", []), Way(FORK, "ba", [])]:
            for index in range(3):
                error = raised(merged, P, [P] * index + [thing, None])
                self.assertIs(type(error), BadLines)
                self.assertEqual(error.index, index)

    def test_bad_way_for_the_base(self):
        for thing in anything():
            if not isinstance(thing, Way):
                for call in (merged, struck_out):
                    error = raised(call, thing, None)
                    self.assertIs(type(error), BadWay)
                    self.assertIs(error.thing, thing)


class StruckOutTest(unittest.TestCase):
    def test_each_box_kept_and_gone(self):
        for way in sample_ways(132, 12, 8) + idle_ways(132):
            told = bare(way)
            boxes = boxes_of(told)
            for index in range(len(boxes)):
                kept, gone = struck_out(way=way, index=index)
                left = [at for at in range(len(boxes)) if index not in closed_told(boxes, [at])]
                self.assertEqual(kept, part_told(told, left))
                self.assertTrue(is_beginning(kept, way))
                self.assertEqual((gone.book(), gone.word()), (way.book(), kept.end()))
                self.assertEqual((gone, len(gone.steps())), (bare(gone), len(boxes) - len(left)))
                self.assertIs(alike(put_behind(kept, gone), way), True)
                self.assertTrue(all(0 in lot for lot in hangs(gone)[1:]))

    def test_an_example(self):
        way = Way(RING, "ab", [(0, 0, "on"), (1, 1, "on"), (0, 1, "on"), (1, 1, "back"), (1, 1, "on")])
        self.assertEqual([box[0] for box in boxes_of(bare(way))], [0, 1, 1])
        first = Way(RING, "ab", [(1, 1, "on")]), Way(RING, "ac", [(0, 0, "on"), (0, 1, "on")])
        self.assertEqual(struck_out(way, 0), first)
        second = Way(RING, "ab", [(0, 0, "on"), (1, 1, "on")]), Way(RING, "bc", [(0, 1, "on")])
        self.assertEqual(struck_out(way, 1), second)

    def test_bad_index_for_what_is_no_index_of_a_box_of_the_bare_way(self):
        way = Way(FORK, "aa", [(0, 1, "on"), (1, 0, "on"), (1, 0, "back")])
        self.assertEqual(len(bare(way).steps()), 1)
        for thing in OTHER_KINDS + ["", "0", [], [0], (0,), way, 1, 2, -1]:
            if thing != 0 or isinstance(thing, bool):
                error = raised(struck_out, way, thing)
                self.assertIs(type(error), BadIndex, repr(thing))
                self.assertIs(error.thing, thing)
        self.assertIs(type(raised(struck_out, Way(MIXED, "ab", []), 0)), BadIndex)


if __name__ == "__main__":
    unittest.main()
