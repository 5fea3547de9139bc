"""[9], [10]: steps done, and ways."""

import unittest

from tests.helpers import (
    BOOKS, HALVES, MIXED, NO_RULES, OTHER_KINDS, TWINS, anything, as_lists, as_tuples, raised, sample_ways, word_after,
)
from waysback.books import Book
from waysback.errors import BadBook, BadStep, BadSteps, BadWord
from waysback.goings import done, steps_at
from waysback.ways import Way

WORDS = ["", "x", "xx", "xxx", "a", "ab", "aab", "abcab", "cba", "zzz"]


def steps_tried(book, word):
    """The steps that can be done on word, by trying all of them."""
    found = []
    for place in range(len(word) + 1):
        for rule, (left, right) in enumerate(book.rules()):
            for turn, source in (("on", left), ("back", right)):
                if word[place:].startswith(source):
                    found.append((place, rule, turn))
    return sorted(found)


class StepsDoneTest(unittest.TestCase):
    def test_steps_at_are_all_that_can_be_done_ascending(self):
        for book in BOOKS:
            for word in WORDS:
                self.assertEqual(steps_at(book, word), steps_tried(book, word))

    def test_steps_at_of_the_example(self):
        self.assertEqual(steps_at(HALVES, "xx"), [(0, 0, "back"), (0, 0, "on"), (1, 0, "back")])

    def test_steps_at_the_empty_word_and_without_rules(self):
        self.assertEqual([steps_at(book, "") for book in BOOKS], [[]] * len(BOOKS))
        self.assertEqual(steps_at(NO_RULES, "xx"), [])

    def test_steps_at_of_alike_rules_and_of_alike_sides(self):
        self.assertEqual(steps_at(TWINS, "a"), [(0, 0, "on"), (0, 1, "on")])
        self.assertEqual(steps_at(Book([("c", "c")]), "c"), [(0, 0, "back"), (0, 0, "on")])

    def test_steps_at_eleven_places_are_in_the_order_of_numbers(self):
        self.assertEqual([place for place, _, _ in steps_at(TWINS, "b" * 12)], [k // 2 for k in range(24)])

    def test_done_for_each_step(self):
        for book in BOOKS:
            for word in WORDS:
                for step in steps_at(book, word):
                    self.assertEqual(done(book, word, step), word_after(book, word, step))
                    self.assertEqual(done(book, word, list(step)), word_after(book, word, step))

    def test_done_by_name_and_in_the_middle(self):
        self.assertEqual(done(book=MIXED, word="cabc", step=(1, 0, "on")), "cbac")
        self.assertEqual(done(MIXED, "cabc", (1, 5, "on")), "cb")
        self.assertEqual(done(MIXED, "cb", (1, 5, "back")), "cabc")

    def test_bad_step_keeps_the_very_thing(self):
        wrong = anything() + [(2, 0, "back"), (1, 0, "on"), (0, 1, "on"), (-1, 0, "on"), (0, -1, "back"),
                              (0, 0, "off"), (10 ** 30, 0, "on"), (0, 10 ** 30, "on"), (True, 0, "back"),
                              (1, False, "back"), [3, 0, "on"], (0, 0, "on", 0), (1, 0)]
        for thing in wrong:
            if thing in ((0, 0, "on"), [0, 0, "on"]):
                continue
            error = raised(done, HALVES, "xx", thing)
            self.assertIs(type(error), BadStep, repr(thing))
            self.assertIs(error.step, thing)

    def test_bad_book_and_bad_word_in_their_order(self):
        for thing in anything():
            if not isinstance(thing, Book):
                for call, more in ((steps_at, (5,)), (done, (5, 5)), (Way, (5, 5))):
                    error = raised(call, thing, *more)
                    self.assertIs(type(error), BadBook)
                    self.assertIs(error.thing, thing)
            if thing not in ("", "ab"):
                for call, more in ((steps_at, ()), (done, (5,)), (Way, (5,))):
                    error = raised(call, HALVES, thing, *more)
                    self.assertIs(type(error), BadWord)
                    self.assertIs(error.thing, thing)


class WaysTest(unittest.TestCase):
    def test_what_a_way_tells(self):
        for way in sample_ways():
            words = [way.word()]
            for step in way.steps():
                words.append(word_after(way.book(), words[-1], step))
            self.assertEqual(way.words(), words)
            self.assertEqual(way.end(), words[-1])

    def test_way_of_no_steps(self):
        for book in BOOKS:
            for word in WORDS:
                way = Way(book, word, [])
                told = (way.book(), way.word(), way.steps(), way.words(), way.end())
                self.assertEqual(told, (book, word, [], [word], word))

    def test_way_of_the_example(self):
        way = Way(book=HALVES, word="xx", steps=[(1, 0, "back"), (0, 0, "on")])
        self.assertEqual(way.words(), ["xx", "xxx", "xx"])
        self.assertEqual(way.steps(), [(1, 0, "back"), (0, 0, "on")])

    def test_lists_for_tuples_and_tuples_for_lists(self):
        for way in sample_ways():
            for change in (as_lists, as_tuples):
                other = Way(Book(change(way.book().rules())), way.word(), change(way.steps()))
                self.assertEqual(other, way)
                self.assertEqual(other.steps(), way.steps())
                self.assertTrue(all(isinstance(step, tuple) for step in other.steps()))

    def test_told_lists_are_new_and_what_is_passed_is_copied(self):
        steps = [[1, 0, "back"], [0, 0, "on"]]
        way = Way(HALVES, "xx", steps)
        steps[0][0] = 0
        steps.pop()
        way.steps().clear()
        way.words().clear()
        way.book().rules().clear()
        self.assertEqual(way.steps(), [(1, 0, "back"), (0, 0, "on")])
        self.assertEqual(way.words(), ["xx", "xxx", "xx"])
        self.assertEqual(way.book(), HALVES)

    def test_no_list_of_steps(self):
        for thing in OTHER_KINDS + ["", "ab", HALVES, Way(HALVES, "", [])]:
            error = raised(Way, HALVES, "xx", thing)
            self.assertIs(type(error), BadSteps)
            self.assertEqual(error.index, 0)

    def test_first_wrong_step_at_any_place(self):
        right = [(0, 0, "back"), (2, 0, "back"), (0, 0, "on"), (1, 0, "on")]
        wrong = [thing for thing in anything() if thing not in ((0, 0, "on"), [0, 0, "on"])]
        for thing in wrong + [(9, 0, "on"), (0, 1, "on"), (0, 0, "off"), (True, 0, "back")]:
            for index in range(5):
                error = raised(Way, HALVES, "xx", right[:index] + [thing] + right[index:] + [None])
                self.assertIs(type(error), BadSteps, repr(thing))
                self.assertEqual(error.index, index)

    def test_a_step_is_done_on_the_word_behind_those_ahead(self):
        self.assertEqual(raised(Way, HALVES, "xx", [(0, 0, "on"), (0, 0, "on")]).index, 1)
        self.assertEqual(raised(Way, HALVES, "x", [(1, 0, "back")]).index, 0)
        self.assertEqual(Way(HALVES, "x", [(0, 0, "back"), (1, 0, "back")]).end(), "xxx")

    def test_equal_and_unlike_ways(self):
        way = Way(TWINS, "aa", [(0, 0, "on"), (1, 0, "on")])
        self.assertEqual(way, Way(Book([["a", "b"], ["a", "b"]]), "aa", ([0, 0, "on"], [1, 0, "on"])))
        self.assertFalse(way != Way(TWINS, "aa", way.steps()))
        unlike = [
            Way(TWINS, "aa", [(0, 0, "on")]), Way(TWINS, "aa", [(1, 0, "on"), (0, 0, "on")]),
            Way(TWINS, "aa", [(0, 1, "on"), (1, 0, "on")]), Way(TWINS, "aaa", way.steps()),
            Way(Book([("a", "b")]), "aa", way.steps()), Way(TWINS, "aa", []),
        ]
        for other in unlike:
            self.assertNotEqual(way, other)

    def test_no_way_is_equal_to_an_object_of_another_kind(self):
        for way in sample_ways()[:20]:
            for thing in [thing for thing in anything() if not isinstance(thing, Way)] + [way.steps(), way.word()]:
                self.assertFalse(way == thing)
                self.assertTrue(way != thing)
                self.assertFalse(thing == way)


if __name__ == "__main__":
    unittest.main()
