"""[12]: wires."""

import unittest

from tests.helpers import HALVES, anything, lists_within, raised, sample_ways
from waysback.books import Book
from waysback.errors import BadIndex, BadNumber, BadWay
from waysback.ways import Way
from waysback.wiring import comes_from, goes_to, wire_rows, wires

EXAMPLE = Way(HALVES, "xx", [(1, 0, "back"), (0, 0, "on")])


def rows_and_pairs(way):
    """The wire rows and the pairs of way, told anew here, wire by wire."""
    row = list(range(len(way.word())))
    fresh = len(row)
    rows, pairs = [row], []
    for (place, rule, turn), before, behind in zip(way.steps(), way.words(), way.words()[1:]):
        left, right = way.book().rules()[rule]
        many, more = (len(left), len(right)) if turn == "on" else (len(right), len(left))
        taken = [row[place + k] for k in range(many)]
        given = [fresh + k for k in range(more)]
        fresh += more
        row = [wire for wire in row[:place]] + given + [wire for wire in row[place + many:]]
        assert len(row) == len(behind) == len(before) - many + more
        rows.append(row)
        pairs.append((taken, given))
    return rows, pairs


class WiresTest(unittest.TestCase):
    def test_the_example(self):
        self.assertEqual(wires(EXAMPLE), [([1], [2, 3]), ([0, 2], [4])])
        self.assertEqual(wire_rows(EXAMPLE), [[0, 1], [0, 2, 3], [4, 3]])
        self.assertEqual(comes_from(EXAMPLE, 2, 1), (0, 1))
        self.assertEqual(goes_to(EXAMPLE, 2, 1), (None, 1))

    def test_wires_and_rows(self):
        for way in sample_ways():
            rows, pairs = rows_and_pairs(way)
            self.assertEqual(wires(way=way), pairs)
            self.assertEqual(wire_rows(way=way), rows)

    def test_a_rule_with_both_sides_one_word_gives_new_wires(self):
        way = Way(Book([("cc", "cc")]), "ccc", [(1, 0, "on"), (0, 0, "back")])
        self.assertEqual(wires(way), [([1, 2], [3, 4]), ([0, 3], [5, 6])])
        self.assertEqual(wire_rows(way), [[0, 1, 2], [0, 3, 4], [5, 6, 4]])

    def test_no_steps(self):
        self.assertEqual(wires(Way(HALVES, "xx", [])), [])
        self.assertEqual(wire_rows(Way(HALVES, "xx", [])), [[0, 1]])
        self.assertEqual(wire_rows(Way(HALVES, "", [])), [[]])

    def test_comes_from_and_goes_to_for_each_letter_of_each_word(self):
        for way in sample_ways():
            rows, pairs = rows_and_pairs(way)
            givers = {wire: (step, at) for step, (_, given) in enumerate(pairs) for at, wire in enumerate(given)}
            takers = {wire: (step, at) for step, (taken, _) in enumerate(pairs) for at, wire in enumerate(taken)}
            first = {wire: (None, at) for at, wire in enumerate(rows[0])}
            last = {wire: (None, at) for at, wire in enumerate(rows[-1])}
            for index, row in enumerate(rows):
                for place, wire in enumerate(row):
                    self.assertEqual(comes_from(way, index, place), {**first, **givers}[wire])
                    self.assertEqual(goes_to(way=way, index=index, place=place), {**last, **takers}[wire])

    def test_each_wire_is_given_once_and_taken_once(self):
        for way in sample_ways():
            many = len(way.word()) + sum(len(given) for _, given in wires(way))
            given = list(range(len(way.word()))) + [wire for _, row in wires(way) for wire in row]
            self.assertEqual(given, list(range(many)))
            ends = [(taken, step) for step, (row, _) in enumerate(wires(way)) for taken in row]
            ends += [(wire, len(way.steps())) for wire in wire_rows(way)[-1]]
            self.assertEqual(sorted(wire for wire, _ in ends), list(range(many)))
            for step, (_, row) in enumerate(wires(way)):
                self.assertTrue(all(behind > step for wire, behind in ends if wire in row))

    def test_told_lists_are_new_and_none_stands_twice(self):
        for way in sample_ways():
            for call in (wires, wire_rows):
                told = call(way)
                found = lists_within(told) + lists_within(call(way))
                self.assertEqual(len(found), len({id(thing) for thing in found}))
                for thing in lists_within(told):
                    thing.append("more")
                self.assertNotEqual(call(way), told)


class WiringErrorsTest(unittest.TestCase):
    def test_bad_way_first(self):
        for thing in anything():
            if not isinstance(thing, Way):
                for call, more in ((wires, ()), (wire_rows, ()), (comes_from, (None, None)), (goes_to, (9, 9))):
                    error = raised(call, thing, *more)
                    self.assertIs(type(error), BadWay)
                    self.assertIs(error.thing, thing)

    def test_then_bad_index(self):
        for thing in anything() + [3, -1, True, False, 10 ** 30, "1"]:
            if not isinstance(thing, bool) and thing in (0, 1, 2):
                continue
            for call in (comes_from, goes_to):
                error = raised(call, EXAMPLE, thing, None)
                self.assertIs(type(error), BadIndex, repr(thing))
                self.assertIs(error.thing, thing)

    def test_then_bad_number(self):
        for index, many in enumerate((2, 3, 2)):
            for thing in anything() + [many, many + 1, -1, True, False, 10 ** 30, "0"]:
                if not isinstance(thing, bool) and thing in range(many):
                    continue
                for call in (comes_from, goes_to):
                    error = raised(call, EXAMPLE, index, thing)
                    self.assertIs(type(error), BadNumber, repr(thing))
                    self.assertIs(error.thing, thing)

    def test_no_place_at_the_empty_word(self):
        for call in (comes_from, goes_to):
            self.assertIs(type(raised(call, Way(HALVES, "", []), 0, 0)), BadNumber)


if __name__ == "__main__":
    unittest.main()
