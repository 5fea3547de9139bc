"""[15]: rows of ways."""

import random
import unittest

from tests.helpers import (
    BOOKS, HALVES, MIXED, NO_RULES, TWINS, all_ways, anything, beginnings, fault_by_beginnings, raised, sample_ways,
    word_after,
)
from waysback.books import Book
from waysback.errors import BadBook, BadText, BadWay
from waysback.goings import steps_at
from waysback.rowtexts import read_rows, rows_fault, rows_go_on, rows_text
from waysback.ways import Way

SIGNS = ["x", "a", "b", "[", "]", "0", "1", " ", "\n", "o", "n", "-", "A", "\u00b2", "(", "\r"]


def row(book, word, step):
    """The row of a step done on word, told anew here."""
    place, rule, turn = step
    left, right = book.rules()[rule]
    end = place + len(left if turn == "on" else right)
    return word[:place] + "[" + word[place:end] + "]" + word[end:] + f" {rule} {turn}\n"


def fault_behind(book, text, at, word):
    """The fault of text if its lines ahead of at lead to word, by the rows of all steps."""
    rows = {row(book, word, step): step for step in steps_at(book, word)}
    told = [line for line in rows if text[at:].startswith(line)]
    if told:
        return fault_behind(book, text, at + len(told[0]), word_after(book, word, rows[told[0]]))
    if text[at:] == word + "\n":
        return None
    lines = list(rows) + [word + "\n"]
    return at + max(end for line in lines for end in range(len(line) + 1) if text[at:].startswith(line[:end]))


def hold(test, book, text):
    """Holds on text what all four functions tell of it; returns the fault."""
    fault = rows_fault(book, text)
    if fault is None:
        test.assertEqual(rows_text(read_rows(book, text)), text)
        test.assertEqual(rows_go_on(book, text), text)
        return None
    error = raised(read_rows, book, text)
    test.assertIs(type(error), BadText)
    test.assertEqual(error.index, fault)
    whole = rows_go_on(book, text[:fault])
    test.assertTrue(whole.startswith(text[:fault]), repr(text))
    test.assertEqual(rows_text(read_rows(book, whole)), whole)
    if fault < len(text):
        test.assertIsNone(rows_go_on(book, text[:fault + 1]), repr(text))
        test.assertIsNone(rows_go_on(book, text), repr(text))
    return fault


class RowsTest(unittest.TestCase):
    def test_rows_of_a_way_and_the_way_read_from_them(self):
        way = Way(HALVES, "xx", [(1, 0, "back"), (0, 0, "on")])
        self.assertEqual(rows_text(way=way), "x[x] 0 back\n[xx]x 0 on\nxx\n")
        self.assertEqual(rows_text(Way(HALVES, "", [])), "\n")
        self.assertEqual(read_rows(book=HALVES, text="\n"), Way(HALVES, "", []))
        self.assertEqual(rows_text(Way(Book([("xx", "x")]), "axxb", [(1, 0, "on")])), "a[xx]b 0 on\naxb\n")
        for way in sample_ways():
            text = "".join(row(way.book(), word, step) for word, step in zip(way.words(), way.steps()))
            self.assertEqual(rows_text(way), text + way.end() + "\n")
            self.assertEqual(read_rows(way.book(), rows_text(way)), way)
            self.assertIsNone(hold(self, way.book(), rows_text(way)))

    def test_cut_short_at_each_place(self):
        for way in sample_ways(each=5):
            text = rows_text(way)
            for end in range(len(text)):
                self.assertEqual(hold(self, way.book(), text[:end]), end)

    def test_a_sign_otherwise_at_each_place_behind_the_first_line(self):
        ways = [Way(HALVES, "xx", [(1, 0, "back"), (0, 0, "on")]), Way(MIXED, "abc", [(0, 5, "on"), (0, 2, "on")]),
                Way(TWINS, "ba", [(0, 1, "back"), (1, 0, "on")]), Way(MIXED, "cba", [(1, 3, "on"), (1, 3, "back")])]
        for way in ways:
            text = rows_text(way)
            first = text.index("\n") + 1
            self.assertIsNone(fault_behind(way.book(), text, first, way.words()[1]))
            for at in range(first, len(text) + 1):
                others = [text[:at] + sign + text[at + many:] for sign in SIGNS for many in range(2)]
                for other in others + [text[:at] + text[at + 1:]]:
                    fault = fault_behind(way.book(), other, first, way.words()[1])
                    self.assertEqual(rows_fault(way.book(), other), fault, repr(other))
                    self.assertEqual(hold(self, way.book(), other), fault)

    def test_beginnings_of_all_short_ways(self):
        rng = random.Random(8)
        for book, letters in ((HALVES, "xa"), (TWINS, "ab")):
            whole = {rows_text(way) for way in all_ways(book, letters, 5, 2)}
            begun = beginnings(whole)
            for text in sorted(rows_text(way) for way in all_ways(book, letters, 2, 1)):
                for _ in range(30):
                    at = rng.randrange(len(text))
                    other = text[:at] + rng.choice(letters + "[]01 \n") + text[at + rng.randrange(2):]
                    self.assertEqual(hold(self, book, other), fault_by_beginnings(other, begun, whole), repr(other))

    def test_the_first_word_may_be_any(self):
        for text, fault in [("zzz", 3), ("zzz\n", None), ("zz[xx]zz 0 on\nzzxzz\n", None), ("[", 1), ("z[", 2),
                            ("z[z", 2), ("z[]", 2), ("z[x", 3), ("z[x]", 4), ("z[x] 0 on", 7), ("z[xx] 0 b", 8),
                            ("z[x]z", 5), ("z[x]z 0 back\n", 13), ("z[x]z[", 5), ("z]", 1), ("Z", 0), ("z z", 1),
                            ("z 0 on\n", 1), ("z[xxx", 4), ("z[x] 1", 5), ("z[x]  0", 5), ("", 0), ("\n\n", 1)]:
            self.assertEqual(rows_fault(HALVES, text), fault, repr(text))
            self.assertEqual(hold(self, HALVES, text), fault)
        self.assertEqual(hold(self, NO_RULES, "z["), 1)
        self.assertEqual(hold(self, NO_RULES, "zz\n"), None)

    def test_a_word_that_is_not_the_one_behind_the_line_ahead(self):
        for text, fault in [("[xx] 0 on\ny\n", 10), ("[xx] 0 on\nxx\n", 11), ("[xx] 0 on\n\n", 10),
                            ("[xx] 0 on\n[xx] 0 on\n", 12), ("[xx] 0 on\n[x]x", 13), ("[xx] 0 on\nx[", 11),
                            ("[x] 0 back\nx\n", 12), ("[x] 0 back\nxxx", 13), ("[x] 0 back\nx[x] 0 on", 18)]:
            self.assertEqual(hold(self, HALVES, text), fault, repr(text))

    def test_brackets_not_round_a_side_of_a_rule(self):
        for text, fault in [("a[b", 3), ("a[bb", 3), ("a[c]", 4), ("a[d", 2), ("[abc]", 5), ("[abb", 3), ("[ba]", 4),
                            ("[aa", 3), ("[aaa", 3), ("[cc", 2), ("[bab", 3)]:
            self.assertEqual(hold(self, MIXED, text), fault, repr(text))
        self.assertEqual(hold(self, MIXED, "[c] 3 back\n[a"), 12)
        self.assertEqual(hold(self, MIXED, "[c] 3 back\nb[b"), 13)
        self.assertEqual(hold(self, MIXED, "[c] 3 back\nba["), 13)

    def test_several_rules_with_one_side(self):
        book = Book([("a", "b"), ("a", "c"), ("b", "a"), ("d", "d")] + [("a", "e")] * 9)
        for text, fault in [("[a] 0 on\n", 9), ("[a] 0 back\n", 6), ("[a] 1 on\n", 9), ("[a] 2 on\n", 6),
                            ("[a] 2 back\n", 11), ("[a] 3", 4), ("[a] 1", 5), ("[a] 12 on\nb", 10), ("[a] 12 on\ne", 11),
                            ("[a] 13", 5), ("[d] 3 on\nd\n", None), ("[d] 3 back\nd\n", None), ("[d] 3 x", 6)]:
            self.assertEqual(hold(self, book, text), fault, repr(text))
        self.assertEqual(read_rows(book, "[a] 1 on\nc\n").steps(), [(0, 1, "on")])
        self.assertEqual(read_rows(book, "[a] 2 back\nb\n").steps(), [(0, 2, "back")])

    def test_lines_without_brackets_and_something_behind_the_end(self):
        for text, fault in [("xx\nxx\n", 3), ("xx\n[xx] 0 on\nx\n", 3), ("[xx] 0 on\nx\n\n", 12), ("xx\n ", 3),
                            ("[xx] 0 on\nx\nx\n", 12), ("[xx] 0 on\nx 0 on\n", 11), ("[xx]\nx\n", 4)]:
            self.assertEqual(hold(self, HALVES, text), fault, repr(text))

    def test_no_string(self):
        for thing in anything():
            if not isinstance(thing, str):
                for book in BOOKS:
                    self.assertEqual(rows_fault(book, thing), -1)
                    self.assertEqual(raised(read_rows, book, thing).index, -1)
                    self.assertIsNone(rows_go_on(book, thing))

    def test_the_same_each_time(self):
        for text in ["", "x[", "[xx] 0", "[xx] 0 on\n", "xx"]:
            self.assertEqual(rows_go_on(HALVES, text), rows_go_on(Book([["xx", "x"]]), text))

    def test_bad_book_ahead_of_text_and_bad_way(self):
        for thing in anything():
            if not isinstance(thing, Book):
                for call in (read_rows, rows_fault, rows_go_on):
                    error = raised(call, thing, None)
                    self.assertIs(type(error), BadBook)
                    self.assertIs(error.thing, thing)
            if not isinstance(thing, Way):
                error = raised(rows_text, thing)
                self.assertIs(type(error), BadWay)
                self.assertIs(error.thing, thing)


if __name__ == "__main__":
    unittest.main()
