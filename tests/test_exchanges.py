"""[19]: exchanges."""

import unittest

from tests.helpers import DOUBLES, HALVES, anything, raised, sample_ways
from waysback.books import Book
from waysback.errors import BadIndex, BadWay, NotApart
from waysback.exchanges import exchanged, is_apart
from waysback.ways import Way
from waysback.wiring import wires

SWAPS = Book([("ab", "c"), ("d", "efg"), ("c", "ab")])


def pairs():
    return [(way, index) for way in sample_ways(11, 20) for index in range(len(way.steps()) - 1)]


class ApartTest(unittest.TestCase):
    def test_apart_if_the_second_takes_no_wire_that_the_first_gives(self):
        seen = set()
        for way, index in pairs():
            given, taken = wires(way)[index][1], wires(way)[index + 1][0]
            apart = not set(given) & set(taken)
            self.assertIs(is_apart(way=way, index=index), apart)
            seen.add(apart)
        self.assertEqual(seen, {True, False})

    def test_at_the_edges_of_what_is_given(self):
        for place, apart in [(0, True), (1, False), (2, False), (3, True), (4, True)]:
            way = Way(Book([("x", "xx")]), "xxxx", [(1, 0, "on"), (place, 0, "on")])
            self.assertIs(is_apart(way, 0), apart)
        for place, apart in [(0, False), (1, False), (2, False), (3, True)]:
            way = Way(HALVES, "xxxx", [(1, 0, "back"), (place, 0, "on")])
            self.assertIs(is_apart(way, 0), apart)


class ExchangedTest(unittest.TestCase):
    def test_the_second_ends_ahead_of_the_first(self):
        way = Way(SWAPS, "abd", [(2, 1, "on"), (0, 0, "on")])
        self.assertEqual(exchanged(way, 0).steps(), [(0, 0, "on"), (1, 1, "on")])
        way = Way(SWAPS, "cad", [(2, 1, "on"), (0, 2, "on")])
        self.assertEqual(exchanged(way, 0).steps(), [(0, 2, "on"), (3, 1, "on")])

    def test_the_second_stands_behind_the_first(self):
        way = Way(SWAPS, "abd", [(0, 0, "on"), (1, 1, "on")])
        self.assertEqual(exchanged(way, 0).steps(), [(2, 1, "on"), (0, 0, "on")])
        way = Way(SWAPS, "dab", [(0, 1, "on"), (3, 0, "on")])
        self.assertEqual(exchanged(way, 0).steps(), [(1, 0, "on"), (0, 1, "on")])
        way = Way(SWAPS, "cac", [(0, 2, "on"), (3, 2, "on")])
        self.assertEqual(exchanged(way, 0).steps(), [(2, 2, "on"), (0, 2, "on")])

    def test_the_example(self):
        way = Way(DOUBLES, "xx", [(0, 0, "on"), (2, 0, "on")])
        self.assertIs(is_apart(way, 0), True)
        self.assertEqual(exchanged(way, 0).steps(), [(1, 0, "on"), (0, 0, "on")])

    def test_what_holds_at_each_index(self):
        for way, index in pairs():
            if not is_apart(way, index):
                error = raised(exchanged, way, index)
                self.assertIs(type(error), NotApart)
                self.assertEqual(error.index, index)
                continue
            other = exchanged(way=way, index=index)
            self.assertIs(is_apart(other, index), True)
            self.assertEqual(exchanged(other, index), way)
            kinds = [step[1:] for step in other.steps()]
            expected = [step[1:] for step in way.steps()]
            expected[index:index + 2] = expected[index:index + 2][::-1]
            self.assertEqual(kinds, expected)
            words = way.words()
            words[index + 1] = other.words()[index + 1]
            self.assertEqual(other.words(), words)
            self.assertEqual(other.book(), way.book())

    def test_only_the_two_steps_change(self):
        way = Way(DOUBLES, "xxx", [(0, 0, "on"), (2, 0, "on"), (4, 0, "on"), (0, 0, "on")])
        self.assertEqual(exchanged(way, 1).steps(), [(0, 0, "on"), (3, 0, "on"), (2, 0, "on"), (0, 0, "on")])


class ExchangeErrorsTest(unittest.TestCase):
    def test_bad_way_first(self):
        for thing in anything():
            if not isinstance(thing, Way):
                for call in (is_apart, exchanged):
                    error = raised(call, thing, None)
                    self.assertIs(type(error), BadWay)
                    self.assertIs(error.thing, thing)

    def test_bad_index(self):
        for many in range(4):
            way = Way(HALVES, "xx", [(0, 0, "back"), (2, 0, "back"), (1, 0, "on")][:many])
            for thing in anything() + [many, many - 1, 1, 2, -1, -2, True, False, "0", 10 ** 30]:
                if not isinstance(thing, bool) and thing in range(many - 1):
                    continue
                for call in (is_apart, exchanged):
                    error = raised(call, way, thing)
                    self.assertIs(type(error), BadIndex, repr(thing))
                    self.assertIs(error.thing, thing)


if __name__ == "__main__":
    unittest.main()
