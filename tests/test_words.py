"""[7]: words and steps."""

import unittest

from tests.helpers import OTHER_KINDS, anything
from waysback.words import is_step, is_word


class WordsTest(unittest.TestCase):
    def test_words(self):
        for word in ["", "a", "z", "abcdefghijklmnopqrstuvwxyz", "rule", "x" * 400]:
            self.assertIs(is_word(word), True)

    def test_strings_that_are_no_words(self):
        for text in ["A", "aB", "a1", "1", "a b", " ", "a\n", "\n", "a-b", "_", "[", "`", "{",
                     "\u00e4", "a\u00df", "\u0131", "\uff41", "a\u0301", "\u00aa", "\u03b1"]:
            self.assertIs(is_word(text), False, repr(text))

    def test_other_objects_are_no_words(self):
        for thing in OTHER_KINDS + [[], ["a"], ("a",), [("a", "b")]]:
            self.assertIs(is_word(thing), False)


class StepsTest(unittest.TestCase):
    def test_steps(self):
        for step in [(0, 0, "on"), (0, 0, "back"), (12, 3, "on"), [5, 7, "back"], (10 ** 12, 10 ** 12, "on")]:
            self.assertIs(is_step(step), True)

    def test_one_part_otherwise(self):
        for wrong in OTHER_KINDS + ["on", "", [], (), [0], (0,), "0"]:
            whole = isinstance(wrong, int) and not isinstance(wrong, bool) and wrong >= 0
            self.assertIs(is_step((wrong, 0, "on")), whole, repr(wrong))
            self.assertIs(is_step((0, wrong, "on")), whole, repr(wrong))
        for wrong in OTHER_KINDS + ["", "On", "ON", "on ", "off", "o", "backs", ["on"], ("on",), [], ()]:
            self.assertIs(is_step((0, 0, wrong)), False, repr(wrong))

    def test_more_and_fewer_parts(self):
        for thing in [(), (0,), (0, 0), (0, 0, "on", 0), (0, "on"), ("on", 0, 0), [0, 0], [(0, 0, "on")]]:
            self.assertIs(is_step(thing), False, thing)

    def test_other_objects_are_no_steps(self):
        for thing in anything():
            self.assertIs(is_step(thing), thing in ((0, 0, "on"), [0, 0, "on"]))


if __name__ == "__main__":
    unittest.main()
