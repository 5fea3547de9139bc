"""[11], [16]: ways turned back, put behind and beside one another, cut."""

import random
import unittest

from tests.helpers import BOOKS, HALVES, MIXED, TWINS, anything, raised, random_way, sample_ways
from waysback.books import Book
from waysback.errors import BadIndex, BadOther, BadWay
from waysback.goings import cut_at, put_behind, put_beside, turned_back
from waysback.ways import Way


def followers(seed=3):
    """Pairs of ways, the second one from where the first one ends, of an equal book."""
    rng = random.Random(seed)
    return [
        (way, random_way(rng, Book(way.book().rules()), way.end(), rng.randrange(6)))
        for way in sample_ways(seed)
    ]


class BackTest(unittest.TestCase):
    def test_steps_the_last_one_first_each_gone_back(self):
        other_turn = {"on": "back", "back": "on"}
        for way in sample_ways():
            back = turned_back(way)
            steps = [(place, rule, other_turn[turn]) for place, rule, turn in way.steps()]
            self.assertEqual(back.steps(), steps[::-1])
            self.assertEqual((back.word(), back.end()), (way.end(), way.word()))
            self.assertEqual(back.words(), way.words()[::-1])
            self.assertEqual(back.book(), way.book())

    def test_there_and_back_and_back_twice(self):
        for way in sample_ways():
            self.assertEqual(turned_back(turned_back(way)), way)
            self.assertEqual(put_behind(way, turned_back(way)).end(), way.word())

    def test_two_behind_one_another_gone_back(self):
        for way, other in followers():
            self.assertEqual(
                turned_back(put_behind(way, other)), put_behind(turned_back(other), turned_back(way)))

    def test_bad_way(self):
        for thing in anything():
            if not isinstance(thing, Way):
                for call, more in ((turned_back, ()), (put_behind, (5,)), (put_beside, (5,)), (cut_at, (None,))):
                    error = raised(call, thing, *more)
                    self.assertIs(type(error), BadWay)
                    self.assertIs(error.thing, thing)


class BehindTest(unittest.TestCase):
    def test_steps_of_both(self):
        for way, other in followers():
            both = put_behind(way=way, other=other)
            self.assertEqual(both.steps(), way.steps() + other.steps())
            self.assertEqual((both.book(), both.word(), both.end()), (way.book(), way.word(), other.end()))

    def test_no_steps_on_either_side_change_nothing(self):
        for way in sample_ways():
            self.assertEqual(put_behind(way, Way(way.book(), way.end(), [])), way)
            self.assertEqual(put_behind(Way(way.book(), way.word(), []), way), way)

    def test_bad_other(self):
        way = Way(HALVES, "xx", [(0, 0, "on")])
        wrong = [Way(HALVES, "xx", []), Way(Book([("x", "xx")]), "x", []), Way(Book([("xx", "x")] * 2), "x", []),
                 Way(HALVES, "", [])]
        for thing in anything() + wrong:
            error = raised(put_behind, way, thing)
            self.assertIs(type(error), BadOther, repr(thing))
            self.assertIs(error.thing, thing)
        self.assertEqual(put_behind(way, Way(Book([("xx", "x")]), "x", [])), way)


class CutTest(unittest.TestCase):
    def test_at_each_index(self):
        for way in sample_ways():
            for index in range(len(way.steps()) + 1):
                pair = cut_at(way=way, index=index)
                self.assertIs(type(pair), tuple)
                first, second = pair
                self.assertEqual((first.word(), first.end()), (way.word(), way.words()[index]))
                self.assertEqual((second.word(), second.end()), (way.words()[index], way.end()))
                self.assertEqual((first.steps(), second.steps()), (way.steps()[:index], way.steps()[index:]))
                self.assertEqual((first.book(), second.book()), (way.book(), way.book()))
                self.assertEqual(put_behind(first, second), way)

    def test_bad_index(self):
        for many in range(3):
            way = Way(HALVES, "xx", [(0, 0, "back")] * many)
            right = list(range(many + 1))
            for thing in anything() + [many + 1, -1, True, False, "0", 10 ** 30, [0], None]:
                if not isinstance(thing, bool) and thing in right:
                    continue
                error = raised(cut_at, way, thing)
                self.assertIs(type(error), BadIndex, repr(thing))
                self.assertIs(error.thing, thing)


class BesideTest(unittest.TestCase):
    def trios(self):
        rng = random.Random(5)
        for book in BOOKS:
            ways = [way for way in sample_ways(2) if way.book() == book]
            for _ in range(12):
                yield rng.choice(ways), rng.choice(ways), rng.choice(ways)

    def test_steps_moved_by_the_letters_of_the_end(self):
        way = Way(HALVES, "xx", [(0, 0, "back"), (1, 0, "back")])
        other = Way(HALVES, "xxx", [(1, 0, "on"), (0, 0, "on")])
        both = put_beside(way, other)
        self.assertEqual(both.word(), "xxxxx")
        self.assertEqual(both.steps(), [(0, 0, "back"), (1, 0, "back"), (5, 0, "on"), (4, 0, "on")])

    def test_word_and_end_one_behind_the_other(self):
        for way, other, _ in self.trios():
            both = put_beside(way=way, other=other)
            self.assertEqual((both.word(), both.end()), (way.word() + other.word(), way.end() + other.end()))
            self.assertEqual(both.steps()[:len(way.steps())], way.steps())
            self.assertEqual(len(both.steps()), len(way.steps()) + len(other.steps()))
            self.assertEqual(both.book(), way.book())

    def test_three_alike_the_first_two_first_or_the_last_two(self):
        for first, second, third in self.trios():
            self.assertEqual(
                put_beside(put_beside(first, second), third), put_beside(first, put_beside(second, third)))

    def test_no_steps_at_the_empty_word_change_nothing(self):
        for way in sample_ways():
            nothing = Way(way.book(), "", [])
            self.assertEqual(put_beside(way, nothing), way)
            self.assertEqual(put_beside(nothing, way), way)

    def test_bad_other(self):
        way = Way(MIXED, "ab", [(0, 0, "on")])
        for thing in anything() + [Way(Book([]), "ab", []), Way(TWINS, "a", [])]:
            if not isinstance(thing, Way) or thing.book() != MIXED:
                error = raised(put_beside, way, thing)
                self.assertIs(type(error), BadOther, repr(thing))
                self.assertIs(error.thing, thing)
        self.assertEqual(put_beside(way, Way(Book(MIXED.rules()), "cab", [])).word(), "abcab")


if __name__ == "__main__":
    unittest.main()
