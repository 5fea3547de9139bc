"""[13]: texts of books."""

import unittest

from tests.helpers import BOOKS, GREAT, NO_RULES, anything, beginnings, fault_by_beginnings, raised
from waysback.books import Book
from waysback.booktexts import book_fault, book_goes_on, book_text, read_book
from waysback.errors import BadBook, BadText

ALL_SIGNS = ["a", "z", "r", "t", "o", " ", "\n", "\t", "\r", "A", "0", "[", "\u00e4", "\u0131", "\u2028", "\U0001f600"]


def is_book_text(text):
    """Whether text is a book's text, told anew here."""
    if text == "":
        return True
    if not text.endswith("\n"):
        return False
    for line in text[:-1].split("\n"):
        parts = line.split(" ")
        if len(parts) != 4 or parts[0] != "rule" or parts[2] != "to":
            return False
        if not all(part and set(part) <= set("abcdefghijklmnopqrstuvwxyz") for part in parts[1::2]):
            return False
    return True


def faults_told(test, text):
    """Holds on text what all four functions tell of it; returns the fault."""
    fault = book_fault(text)
    if fault is None:
        test.assertTrue(is_book_text(text), repr(text))
        test.assertEqual(book_text(read_book(text)), text)
        test.assertEqual(book_goes_on(text), text)
        return None
    test.assertFalse(is_book_text(text), repr(text))
    error = raised(read_book, text)
    test.assertIs(type(error), BadText)
    test.assertEqual(error.index, fault)
    whole = book_goes_on(text[:fault])
    test.assertTrue(is_book_text(whole), repr(text))
    test.assertTrue(whole.startswith(text[:fault]))
    if fault < len(text):
        test.assertIsNone(book_goes_on(text[:fault + 1]), repr(text))
        test.assertIsNone(book_goes_on(text), repr(text))
    return fault


class BookTextsTest(unittest.TestCase):
    def test_text_of_a_book_and_the_book_read_from_it(self):
        self.assertEqual(book_text(Book([("xx", "x"), ("a", "bcd")])), "rule xx to x\nrule a to bcd\n")
        self.assertEqual(book_text(book=NO_RULES), "")
        self.assertEqual(read_book(text=""), NO_RULES)
        for book in BOOKS + [GREAT]:
            self.assertEqual(read_book(book_text(book)), book)
            self.assertIsNone(book_fault(book_text(book)))

    def test_cut_short_at_each_place(self):
        text = "rule xx to x\nrule a to to\n"
        for end in range(len(text)):
            expected = None if end in (0, 13) else end
            self.assertEqual(faults_told(self, text[:end]), expected)

    def test_a_sign_otherwise_at_each_place(self):
        text = "rule xx to x\nrule rule to to\n"
        for at in range(len(text)):
            for sign in ALL_SIGNS:
                faults_told(self, text[:at] + sign + text[at + 1:])
                faults_told(self, text[:at] + sign + text[at:])
            faults_told(self, text[:at] + text[at + 1:])

    def test_where_the_first_wrong_sign_is(self):
        cases = [
            (" ", 0), ("\n", 0), ("Rule a to b\n", 0), ("rules a to b\n", 4), ("rule  to b\n", 5), ("rule a\nb", 6),
            ("rule a  to b\n", 7), ("rule a t b\n", 8), ("rule a to \n", 10), ("rule a to b", 11),
            ("rule a to b \n", 11), ("rule a to b\n\n", 12), ("rule a to b\nrul", 15), ("rule aB to b\n", 6),
            ("rule a to b c\n", 11), ("rule a to b\r\n", 11), ("rule \u00e4 to b\n", 5), ("word xx\n", 0),
        ]
        for text, fault in cases:
            self.assertEqual(book_fault(text), fault, repr(text))
            self.assertEqual(faults_told(self, text), fault)

    def test_lines_exchanged_twice_and_gone(self):
        lines = ["rule a to b\n", "rule c to d\n", "rule e to f\n"]
        for some in (lines[::-1], lines + lines, lines[:1] + lines[2:], [lines[0], lines[0]]):
            self.assertIsNone(faults_told(self, "".join(some)))
        self.assertEqual(faults_told(self, "rule a to b" + lines[1]), 15)
        self.assertEqual(faults_told(self, "a to b\n" + lines[1]), 0)

    def test_beginnings_of_some_short_texts(self):
        some = ["".join(f"rule {left} to {right}\n" for left, right in rules)
                for rules in [[], [("a", "b")], [("a", "b"), ("b", "a")], [("ab", "b")], [("b", "aa")]]]
        begun = beginnings(some)
        for text in begun:
            self.assertEqual(book_fault(text), fault_by_beginnings(text, begun, some))

    def test_no_string(self):
        for thing in anything():
            if not isinstance(thing, str):
                self.assertEqual(book_fault(thing), -1)
                self.assertEqual(raised(read_book, thing).index, -1)
                self.assertIs(type(raised(read_book, thing)), BadText)
                self.assertIsNone(book_goes_on(thing))

    def test_the_same_each_time(self):
        for text in ["", "r", "rule ", "rule a", "rule a t", "rule a to b", "rule a to b\nru"]:
            self.assertEqual(book_goes_on(text), book_goes_on(text))

    def test_bad_book(self):
        for thing in anything():
            if not isinstance(thing, Book):
                error = raised(book_text, thing)
                self.assertIs(type(error), BadBook)
                self.assertIs(error.thing, thing)


if __name__ == "__main__":
    unittest.main()
