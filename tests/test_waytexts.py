"""[14]: texts of ways."""

import random
import unittest

from tests.helpers import (
    BOOKS, GREAT, HALVES, MIXED, NO_RULES, TWINS, all_ways, anything, beginnings, fault_by_beginnings, raised,
    sample_ways, word_after,
)
from waysback.books import Book
from waysback.errors import BadBook, BadText, BadWay
from waysback.goings import steps_at
from waysback.ways import Way
from waysback.waytexts import read_way, way_fault, way_goes_on, way_text

SIGNS = ["x", "a", "b", "0", "1", "2", "9", " ", "\n", "o", "n", "-", "\u00b2", "\u0661", "A", "[", "\r"]


def fault_told(book, text):
    """What way_fault has to tell of a string, told anew here by the lines of all steps."""
    if not text.startswith("word "):
        return longest_common(text, ["word "])
    end = 5
    while end < len(text) and "a" <= text[end] <= "z":
        end += 1
    if text[end:end + 1] != "\n":
        return end
    word = text[5:end]
    at = end + 1
    while at < len(text):
        lines = {f"{step[0]} {step[1]} {step[2]}\n": step for step in steps_at(book, word)}
        told = [line for line in lines if text[at:].startswith(line)]
        if not told:
            return at + longest_common(text[at:], lines)
        word = word_after(book, word, lines[told[0]])
        at += len(told[0])
    return None


def longest_common(text, lines):
    """The greatest number of signs with which text and one of lines begin."""
    return max([end for line in lines for end in range(len(line) + 1) if text.startswith(line[:end])], default=0)


def hold(test, book, text):
    """Holds on text what all four functions tell of it; returns the fault."""
    fault = way_fault(book, text)
    test.assertEqual(fault, fault_told(book, text), repr(text))
    if fault is None:
        test.assertEqual(way_text(read_way(book, text)), text)
        test.assertEqual(way_goes_on(book, text), text)
        return None
    error = raised(read_way, book, text)
    test.assertIs(type(error), BadText)
    test.assertEqual(error.index, fault)
    whole = way_goes_on(book, text[:fault])
    test.assertTrue(whole.startswith(text[:fault]), repr(text))
    test.assertEqual(way_text(read_way(book, whole)), whole)
    if fault < len(text):
        test.assertIsNone(way_goes_on(book, text[:fault + 1]), repr(text))
        test.assertIsNone(way_goes_on(book, text), repr(text))
    return fault


class WayTextsTest(unittest.TestCase):
    def test_text_of_a_way_and_the_way_read_from_it(self):
        way = Way(HALVES, "xx", [(1, 0, "back"), (0, 0, "on")])
        self.assertEqual(way_text(way=way), "word xx\n1 0 back\n0 0 on\n")
        self.assertEqual(way_text(Way(HALVES, "", [])), "word \n")
        self.assertEqual(read_way(book=HALVES, text="word \n"), Way(HALVES, "", []))
        for way in sample_ways():
            self.assertEqual(read_way(way.book(), way_text(way)), way)
            self.assertEqual(hold(self, way.book(), way_text(way)), None)

    def test_the_example(self):
        self.assertEqual(hold(self, HALVES, "word xx\n2"), 8)
        self.assertEqual(hold(self, HALVES, "word xx\n"), None)

    def test_cut_short_at_each_place(self):
        for way in sample_ways(each=5):
            text = way_text(way)
            whole = [end + 1 for end, sign in enumerate(text) if sign == "\n"]
            for end in range(len(text) + 1):
                self.assertEqual(hold(self, way.book(), text[:end]), None if end in whole else end)

    def test_a_sign_otherwise_at_each_place(self):
        ways = [Way(HALVES, "xx", [(1, 0, "back"), (0, 0, "on")]), Way(MIXED, "ab", [(0, 0, "on"), (1, 1, "on")]),
                Way(TWINS, "b" * 11, [(10, 1, "back"), (1, 0, "back")]), Way(NO_RULES, "xx", [])]
        for way in ways:
            text = way_text(way)
            for at in range(len(text) + 1):
                for sign in SIGNS:
                    hold(self, way.book(), text[:at] + sign + text[at + 1:])
                    hold(self, way.book(), text[:at] + sign + text[at:])
                hold(self, way.book(), text[:at] + text[at + 1:])

    def test_lines_exchanged_twice_and_gone(self):
        rng = random.Random(4)
        for way in sample_ways(4):
            lines = way_text(way).splitlines(keepends=True)
            for _ in range(6):
                at = rng.randrange(len(lines))
                some = rng.choice([lines[:at] + lines[at:at + 1] + lines[at:], lines[:at] + lines[at + 1:],
                                   lines[:at] + lines[at:][::-1], lines[::-1]])
                hold(self, way.book(), "".join(some))
                hold(self, way.book(), "".join(lines[:at]) + lines[at][:-1] + "".join(lines[at + 1:]))

    def test_where_the_first_wrong_sign_is(self):
        eleven = Book([("a", "b")] * 11)
        cases = [
            (HALVES, "", 0), (HALVES, "word", 4), (HALVES, "word xx", 7), (HALVES, "word\n", 4), (HALVES, "words", 4),
            (HALVES, "word xX\n", 6), (HALVES, "word x x\n", 6), (HALVES, "word \n0", 6), (HALVES, "word \n\n", 6),
            (HALVES, "word xx\n00 0 on\n", 9), (HALVES, "word xx\n0 00 on\n", 11), (HALVES, "word xx\n+0 0 on\n", 8),
            (HALVES, "word xx\n1 0 on\n", 12), (HALVES, "word xx\n0 0 off\n", 13), (HALVES, "word xx\n0 1 on\n", 10),
            (HALVES, "word xx\n0  0 on\n", 10), (HALVES, "word xx\n0 0 on \n", 14), (HALVES, "word xx\n0 0 on", 14),
            (HALVES, "word xx\n0 0 on\n0 0 on\n", 19), (HALVES, "word xx\n0 0 on\n1", 15),
            (HALVES, "word xx\n-1 0 on\n", 8), (HALVES, "word xx\n0\u0660 0 on\n", 9), (HALVES, "word yy\n0", 8),
            (NO_RULES, "word xx\n0", 8), (NO_RULES, "word xx\n\n", 8), (TWINS, "word a\n0 2 on\n", 9),
            (TWINS, "word a\n0 1 back\n", 11), (eleven, "word a\n0 10 on\n", None), (eleven, "word a\n0 1 on\n", None),
            (eleven, "word a\n0 11 on\n", 10), (eleven, "word a\n0 1", 10), (eleven, "word a\n0 2", 10),
            (eleven, "word a\n0 20", 10), (HALVES, "word xx\n" + "9" * 5000 + " 0 on\n", 8),
            (TWINS, "word " + "a" * 11 + "\n" + "1" * 5000 + " 0 on\n", 18),
        ]
        for book, text, fault in cases:
            self.assertEqual(way_fault(book, text), fault, repr(text[:40]))
            self.assertEqual(hold(self, book, text), fault)

    def test_beginnings_of_all_short_ways(self):
        whole = {way_text(way) for way in all_ways(HALVES, "xa", 4, 3)}
        begun = beginnings(whole)
        short = sorted(way_text(way) for way in all_ways(HALVES, "xa", 2, 2))
        rng = random.Random(6)
        for text in short:
            for _ in range(20):
                at = rng.randrange(len(text))
                other = text[:at] + rng.choice("xa01 \n-") + text[at + rng.randrange(2):]
                if other.count("\n") < 4:
                    self.assertEqual(way_fault(HALVES, other), fault_by_beginnings(other, begun, whole), repr(other))

    def test_great_book_with_rules_of_two_figures(self):
        for text in ["word x\n0 1", "word x\n0 17", "word x\n0 18", "word xy\n0 1", "word xyxyxyxyxy\n0 1",
                     "word xyxyxyxyxy\n0 18 on\n0 1", "word xyxyxyxyxy\n0 18 on\n9 19 on\n1"]:
            hold(self, GREAT, text)

    def test_no_string(self):
        for thing in anything():
            if not isinstance(thing, str):
                for book in BOOKS:
                    self.assertEqual(way_fault(book, thing), -1)
                    self.assertEqual(raised(read_way, book, thing).index, -1)
                    self.assertIsNone(way_goes_on(book, thing))

    def test_the_same_each_time(self):
        for text in ["", "word x", "word xx\n", "word xx\n0", "word xx\n0 0 o"]:
            self.assertEqual(way_goes_on(HALVES, text), way_goes_on(Book([["xx", "x"]]), text))

    def test_bad_book_ahead_of_text_and_bad_way(self):
        for thing in anything():
            if not isinstance(thing, Book):
                for call in (read_way, way_fault, way_goes_on):
                    error = raised(call, thing, None)
                    self.assertIs(type(error), BadBook)
                    self.assertIs(error.thing, thing)
            if not isinstance(thing, Way):
                error = raised(way_text, thing)
                self.assertIs(type(error), BadWay)
                self.assertIs(error.thing, thing)


if __name__ == "__main__":
    unittest.main()
