"""[8]: books."""

import unittest

from tests.helpers import OTHER_KINDS, anything, raised
from waysback.books import Book
from waysback.errors import BadRules


class BooksTest(unittest.TestCase):
    def test_rules_are_told_in_order(self):
        for rules in [[], [("a", "b")], [("a", "b"), ("a", "b")], [("xx", "xx")], [("b", "a"), ("a", "b"), ("ab", "c")]]:
            self.assertEqual(Book(rules).rules(), rules)

    def test_lists_for_tuples_and_tuples_for_lists(self):
        for rules in [[["a", "b"], ["c", "d"]], (("a", "b"), ("c", "d")), (["a", "b"], ("c", "d"))]:
            self.assertEqual(Book(rules).rules(), [("a", "b"), ("c", "d")])
        self.assertEqual(Book(()).rules(), [])

    def test_rules_are_new_each_time_and_copied(self):
        rules = [["a", "b"], ["c", "d"]]
        book = Book(rules)
        rules[0][0] = "z"
        rules.append(["e", "f"])
        told = book.rules()
        told.append(("g", "h"))
        self.assertEqual(book.rules(), [("a", "b"), ("c", "d")])
        self.assertIsNot(book.rules(), book.rules())

    def test_no_list(self):
        for thing in OTHER_KINDS + ["", "ab", Book([])]:
            error = raised(Book, thing)
            self.assertIs(type(error), BadRules)
            self.assertEqual(error.index, 0)

    def test_first_thing_that_is_no_rule_at_any_place(self):
        wrong = anything() + [("", "a"), ("a", ""), ("", ""), ("a",), ("a", "b", "c"), ("A", "b"), ("a", "b c"),
                              ("a", None), (1, "a"), (["a"], "b"), {"a": 1, "b": 2}, "ab"]
        wrong = [thing for thing in wrong if thing != ("a", "b")]
        for thing in wrong:
            for index in range(4):
                rules = [("a", "b")] * 4
                rules[index] = thing
                error = raised(Book, rules + [None])
                self.assertIs(type(error), BadRules, repr(thing))
                self.assertEqual(error.index, index)

    def test_equal_and_unlike_books(self):
        self.assertEqual(Book([("a", "b")]), Book((["a", "b"],)))
        self.assertEqual(Book([]), Book([]))
        self.assertFalse(Book([("a", "b")]) != Book([("a", "b")]))
        for other in [Book([]), Book([("b", "a")]), Book([("a", "b"), ("a", "b")]), Book([("a", "c")])]:
            self.assertNotEqual(Book([("a", "b")]), other)
        self.assertNotEqual(Book([("a", "b"), ("c", "d")]), Book([("c", "d"), ("a", "b")]))

    def test_no_book_is_equal_to_an_object_of_another_kind(self):
        for book in [Book([]), Book([("a", "b")])]:
            for thing in [thing for thing in anything() if not isinstance(thing, Book)] + [book.rules()]:
                self.assertFalse(book == thing)
                self.assertTrue(book != thing)
                self.assertFalse(thing == book)


if __name__ == "__main__":
    unittest.main()
