"""[23]: steps done at once."""

import random
import unittest

from tests.helpers import DOUBLES, HALVES, TWINS, all_ways, anything, lists_within, raised, sample_ways
from tests.test_hangings import hangs_told
from waysback.errors import BadWay
from waysback.hangings import order_at, orders_count, reordered
from waysback.oncetimes import at_once, earliest, latest
from waysback.pictures import same_picture
from waysback.ways import Way
from waysback.wiring import wires


def times_told(way):
    """The lists of the earliest and the latest times, by stepping through all times."""
    hung = hangs_told(way)
    early = [0] * len(hung)
    for _ in hung:
        early = [max([early[other] + 1 for other in below], default=0) for below in hung]
    late = [max(early, default=0)] * len(hung)
    for _ in hung:
        late = [min([late[other] - 1 for other in range(len(hung)) if index in hung[other]], default=max(early))
                for index in range(len(hung))]
    return early, late


class TimesTest(unittest.TestCase):
    def test_earliest_and_latest(self):
        for way in sample_ways(40, 25, 14):
            early, late = times_told(way)
            self.assertEqual(earliest(way=way), early)
            self.assertEqual(latest(way=way), late)
            self.assertTrue(all(first <= last for first, last in zip(early, late)))

    def test_one_that_can_wait(self):
        way = Way(DOUBLES, "xx", [(0, 0, "on"), (0, 0, "on"), (0, 0, "on"), (4, 0, "on")])
        self.assertEqual(earliest(way), [0, 1, 2, 0])
        self.assertEqual(latest(way), [0, 1, 2, 2])

    def test_one_on_which_others_of_unlike_times_hang(self):
        way = Way(DOUBLES, "x", [(0, 0, "on"), (0, 0, "on"), (2, 0, "on"), (0, 0, "on")])
        self.assertEqual(earliest(way), [0, 1, 1, 2])
        self.assertEqual(latest(way), [0, 1, 2, 2])

    def test_no_steps(self):
        for word in ("", "xx"):
            way = Way(HALVES, word, [])
            self.assertEqual((earliest(way), latest(way), at_once(way)), ([], [], []))

    def test_told_lists_are_new_and_none_stands_twice(self):
        for way in sample_ways():
            for call in (earliest, latest, at_once):
                found = lists_within(call(way)) + lists_within(call(way))
                self.assertEqual(len(found), len({id(thing) for thing in found}))


class AtOnceTest(unittest.TestCase):
    def test_the_example(self):
        way = Way(DOUBLES, "xx", [(0, 0, "on"), (2, 0, "on")])
        self.assertEqual(at_once(way), [[(0, 0, "on"), (1, 0, "on")]])

    def test_places_in_the_word_that_stands_there(self):
        way = Way(DOUBLES, "xx", [(1, 0, "on"), (2, 0, "on"), (0, 0, "on"), (0, 0, "on")])
        self.assertEqual(at_once(way=way), [[(0, 0, "on"), (1, 0, "on")], [(0, 0, "on"), (3, 0, "on")]])

    def test_the_steps_of_one_time_from_left_to_right_are_an_order(self):
        for way in sample_ways(41, 20, 12):
            told = at_once(way)
            steps = []
            for lot in told:
                self.assertEqual(lot, sorted(lot))
                moved = 0
                for place, rule, turn in lot:
                    steps.append((place + moved, rule, turn))
                    left, right = way.book().rules()[rule]
                    moved += (len(right) - len(left)) * (1 if turn == "on" else -1)
            self.assertTrue(same_picture(Way(way.book(), way.word(), steps), way))
            self.assertEqual([len(lot) for lot in told],
                             [earliest(way).count(time) for time in range(len(told))])

    def test_as_many_times_as_steps_in_a_longest_row(self):
        for way in [way for way in sample_ways(42, 12) if len(way.steps()) <= 8]:
            hung = hangs_told(way)
            rows = [[index] for index in range(len(hung))]
            for row in rows:
                rows.extend(row + [index] for index in range(len(hung)) if row[-1] in hung[index])
            self.assertEqual(len(at_once(way)), max([len(row) for row in rows], default=0))

    def test_one_picture_just_if_at_once_is_equal(self):
        rng = random.Random(14)
        for book, word in ((DOUBLES, "xx"), (TWINS, "ab")):
            ways = [way for way in all_ways(book, "".join(sorted(set(word))), 2, 3) if way.word() == word]
            for _ in range(1500):
                way, other = rng.choice(ways), rng.choice(ways)
                self.assertIs(at_once(way) == at_once(other), same_picture(way, other))
        for way in sample_ways(43, 12, 8):
            other = reordered(way, order_at(way, rng.randrange(orders_count(way))))
            self.assertEqual(at_once(other), at_once(way))
            self.assertEqual(sorted(earliest(other)), sorted(earliest(way)))
            self.assertEqual(len(wires(other)), len(wires(way)))

    def test_bad_way(self):
        for thing in anything():
            if not isinstance(thing, Way):
                for call in (earliest, latest, at_once):
                    error = raised(call, thing)
                    self.assertIs(type(error), BadWay)
                    self.assertIs(error.thing, thing)


if __name__ == "__main__":
    unittest.main()
