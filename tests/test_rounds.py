"""[45] to [49]: rounds, carried along ways, done several times, and how many steps they then have."""

import random
import unittest

from tests.helpers import BOOKS, DOUBLES, HALVES, OTHER_KINDS, RING, ROUND_BOOKS, TWINS, anything, raised, random_round
from tests.helpers import random_way, sample_rounds, way_told_back
from tests.oracles import bare_told
from waysback.books import Book
from waysback.errors import BadBook, BadNumber, BadOther, BadWay, BadWord, NotRound
from waysback.goings import put_behind, put_beside, turned_back
from waysback.idles import bare
from waysback.likeness import alike, fewest
from waysback.rounds import carried, is_round, no_steps, power, power_steps
from waysback.straights import straight
from waysback.ways import Way

A = Way(HALVES, "x", [(0, 0, "back"), (1, 0, "back"), (0, 0, "on"), (0, 0, "on")])
# A round at the first letter alone, and one that is alike to no steps.
FIRST = Way(TWINS, "aa", [(0, 0, "on"), (0, 1, "back")])
IDLE = Way(HALVES, "xx", [(0, 0, "on"), (0, 0, "back")])


def belt(each, long):
    """A round on whose wires letters are carried through so many copies, then are undone each."""
    book = Book([("z", "z" + "x" * each), ("x" * each + "w", "w"), ("x" * each, "y")])
    steps = [(0, 0, "on"), (1, 2, "on"), (long + 1, 2, "back"), (long + 1, 1, "on")]
    return Way(book, "z" + "y" * long + "w", steps)


def double_belt(each, long):
    """The same with letters put together twice, and undone twice."""
    book = Book([("z", "z" + "x" * each), ("x" * each + "w", "w"), ("x" * each, "y"), ("y" * each, "v")])
    steps = [(0, 0, "on")] * each + [(1 + at, 2, "on") for at in range(each)] + [(1, 3, "on"), (long + 1, 3, "back")]
    steps += [(long + 1 + at, 2, "back") for at in reversed(range(each))]
    steps += [(long + 1 + at * each, 1, "on") for at in reversed(range(each))]
    return Way(book, "z" + "v" * long + "w", steps)


BELTS = [belt(1, 3), belt(2, 4), belt(3, 6), double_belt(2, 3), double_belt(3, 2)]


class RoundTest(unittest.TestCase):
    def test_any_object(self):
        for thing in anything():
            expected = isinstance(thing, Way) and thing.word() == thing.end()
            self.assertIs(is_round(thing=thing), expected)
        self.assertIs(is_round(Way(HALVES, "xx", [(0, 0, "on")])), False)
        for way in sample_rounds() + BELTS + [A, FIRST, IDLE]:
            self.assertIs(is_round(way), True)

    def test_no_steps(self):
        for book in BOOKS:
            for word in ("", "ab", "x"):
                self.assertEqual(no_steps(book=book, word=word), Way(book, word, []))

    def test_bad_book_then_bad_word(self):
        for thing in anything():
            if not isinstance(thing, Book):
                error = raised(no_steps, thing, None)
                self.assertIs(type(error), BadBook)
                self.assertIs(error.thing, thing)
            if thing not in ("", "ab"):
                error = raised(no_steps, HALVES, thing)
                self.assertIs(type(error), BadWord)
                self.assertIs(error.thing, thing)


class GroupTest(unittest.TestCase):
    def test_one_gone_back_and_put_behind(self):
        for way in sample_rounds(150):
            one = no_steps(way.book(), way.word())
            self.assertTrue(alike(put_behind(way, turned_back(way)), one) and alike(put_behind(turned_back(way), way), one))
            self.assertTrue(alike(put_behind(one, way), way) and alike(put_behind(way, one), way))
            self.assertIs(is_round(turned_back(way)), True)

    def test_ways_of_one_word_and_end_are_a_round_apart(self):
        rng = random.Random(151)
        for way in sample_rounds(152):
            aside = random_way(rng, way.book(), way.word(), 4, 9)
            other = put_behind(way, aside)
            ahead = put_behind(other, turned_back(aside))
            behind = put_behind(turned_back(aside), other)
            self.assertTrue(is_round(ahead) and is_round(behind))
            self.assertTrue(alike(put_behind(ahead, aside), other) and alike(put_behind(aside, behind), other))

    def test_side_by_side(self):
        rounds = sample_rounds(153, 8)
        for way in rounds:
            for other in rounds:
                if way.book() == other.book():
                    first = put_beside(way, no_steps(way.book(), other.word()))
                    second = put_beside(no_steps(way.book(), way.word()), other)
                    both = put_beside(way, other)
                    self.assertTrue(alike(put_behind(first, second), both) and alike(put_behind(second, first), both))
                    nothing = alike(both, no_steps(both.book(), both.word()))
                    self.assertIs(nothing, fewest(way) == 0 and fewest(other) == 0)


class CarriedTest(unittest.TestCase):
    def test_as_told(self):
        rng = random.Random(154)
        for way in sample_rounds(155):
            other = random_way(rng, way.book(), way.word(), rng.randrange(6), 9)
            steps = way_told_back(other) + way.steps() + other.steps()
            told = carried(way=way, other=other)
            self.assertEqual(told, bare_told(Way(way.book(), other.end(), steps)))
            self.assertIs(is_round(told), True)

    def test_on_by_another_there_and_back_and_by_alike_ways(self):
        rng = random.Random(156)
        for way in sample_rounds(157):
            other = random_way(rng, way.book(), way.word(), 4, 9)
            further = random_way(rng, way.book(), other.end(), 3, 10)
            self.assertEqual(carried(carried(way, other), further), carried(way, put_behind(other, further)))
            self.assertEqual(carried(carried(way, other), turned_back(other)), bare(way))
            self.assertEqual(carried(way, bare(other)), carried(way, other))
            self.assertEqual(carried(way, no_steps(way.book(), way.word())), bare(way))

    def test_two_rounds_behind_one_another_and_ways_of_the_same_ends(self):
        rng = random.Random(158)
        for way in sample_rounds(159):
            second = random_round(rng, way.book(), way.word(), 5, len(way.word()) + 2)
            other = random_way(rng, way.book(), way.word(), 4, 9)
            both = put_behind(carried(way, other), carried(second, other))
            self.assertEqual(carried(put_behind(way, second), other), bare(both))
            around = put_behind(second, other)
            back = put_behind(turned_back(other), around)
            self.assertEqual(carried(way, around), carried(carried(way, other), back))

    def test_not_round_with_its_end_ahead_of_other_errors(self):
        way = Way(HALVES, "xxx", [(1, 0, "on")])
        for call in (carried, power, power_steps):
            for thing in [None] + anything():
                error = raised(call, way, thing)
                self.assertIs(type(error), NotRound)
                self.assertEqual(error.end, "xx")

    def test_bad_way_then_bad_other(self):
        for thing in anything() + [Way(HALVES, "xx", []), Way(TWINS, "x", [])]:
            if not isinstance(thing, Way):
                for call in (carried, power, power_steps):
                    error = raised(call, thing, None)
                    self.assertIs(type(error), BadWay)
                    self.assertIs(error.thing, thing)
            error = raised(carried, A, thing)
            self.assertIs(type(error), BadOther)
            self.assertIs(error.thing, thing)


class PowerTest(unittest.TestCase):
    def test_as_told(self):
        for way in sample_rounds(160) + [A, FIRST, IDLE]:
            for number in range(-3, 4):
                steps = (way.steps() if number > 0 else way_told_back(way)) * abs(number)
                self.assertEqual(power(way=way, number=number), bare_told(Way(way.book(), way.word(), steps)))
            self.assertEqual(power(way, 0), no_steps(way.book(), way.word()))

    def test_sums_and_products(self):
        for way in sample_rounds(161, 6):
            for first in (-4, -1, 0, 2, 3):
                for second in (-2, 1, 4):
                    both = put_behind(power(way, first), power(way, second))
                    self.assertEqual(bare(both), power(way, first + second))
                    self.assertEqual(power(power(way, first), second), power(way, first * second))

    def test_powers_of_unlike_numbers_are_unlike(self):
        for way in sample_rounds(162):
            told = [power(way, number) for number in range(-3, 5)]
            unlike = len([way for at, way in enumerate(told) if way not in told[:at]])
            self.assertEqual(unlike, 1 if fewest(way) == 0 else 8)

    def test_great_powers_of_what_is_alike_to_no_steps(self):
        for way in (IDLE, no_steps(TWINS, "ab"), put_behind(FIRST, turned_back(FIRST))):
            for number in (999999999, -999999999):
                self.assertEqual(power(way, number), no_steps(way.book(), way.word()))
                self.assertEqual(power_steps(way, number), 0)

    def test_bad_number(self):
        for call in (power, power_steps):
            for thing in OTHER_KINDS + ["", "1", [], [1], (1,), A, HALVES]:
                if not isinstance(thing, int) or isinstance(thing, bool):
                    error = raised(call, A, thing)
                    self.assertIs(type(error), BadNumber, repr(thing))
                    self.assertIs(error.thing, thing)


class PowerStepsTest(unittest.TestCase):
    def test_the_example(self):
        self.assertEqual((power_steps(way=A, number=1000000), power_steps(A, -1)), (2000002, 4))

    def test_of_small_numbers_the_number_of_steps(self):
        for way in sample_rounds(163, 10) + BELTS + [A, FIRST, IDLE]:
            for number in list(range(-6, 9)) + [14, 23]:
                self.assertEqual(power_steps(way, number), len(power(way, number).steps()))

    def test_of_great_ones_just_so_many_more_each_time(self):
        for way in sample_rounds(164, 10) + BELTS + [A, FIRST, IDLE]:
            carrier, core = straight(way)
            more = len(core.steps())
            # From here on it is so by the theorem.
            enough = 2 * len(core.word()) * (fewest(carrier) + 1)
            there = power_steps(way, enough)
            if enough * len(way.steps()) < 6000:
                self.assertEqual(there, len(power(way, enough).steps()))
            for number in (enough + 1, enough + 7, 123456789, 999999999):
                self.assertEqual(power_steps(way, number), there + (number - enough) * more)
                self.assertEqual(power_steps(way, -number), power_steps(way, number))

    def test_rounds_carried_along_ways(self):
        rng = random.Random(165)
        for book in ROUND_BOOKS:
            letters = sorted({letter for rule in book.rules() for side in rule for letter in side})
            for _ in range(6):
                core = random_round(rng, book, "".join(rng.choice(letters) for _ in range(3)), 5)
                way = carried(core, random_way(rng, book, core.word(), 6, 9))
                more = power_steps(way, 10 ** 8 + 1) - power_steps(way, 10 ** 8)
                self.assertEqual(more, power_steps(core, 10 ** 6 + 1) - power_steps(core, 10 ** 6))
                for number in (1, 2, 5, 11):
                    self.assertEqual(power_steps(way, number), len(power(way, number).steps()))

    def test_belts_as_far_as_they_take_to_settle(self):
        for way in BELTS:
            counts = [len(power(way, number).steps()) for number in range(30)]
            self.assertEqual([power_steps(way, number) for number in range(30)], counts)
            self.assertGreater(len({after - ahead for ahead, after in zip(counts, counts[1:])}), 1)
            self.assertEqual(power_steps(way, 999999999), counts[29] + (999999999 - 29) * (counts[29] - counts[28]))

    def test_circles_between_what_goes_round(self):
        # What is put ahead on a letter that stands still is struck at the end, whatever stands beside it.
        both = put_beside(put_beside(A, Way(HALVES, "x", [])), A)
        aside = Way(HALVES, "xxx", [(1, 0, "back"), (1, 0, "back"), (0, 0, "on")])
        way = carried(both, aside)
        for number in (0, 1, 2, 3, 9, -5):
            self.assertEqual(power_steps(way, number), len(power(way, number).steps()))
        self.assertEqual(power_steps(way, 10 ** 9 - 1) - power_steps(way, 10 ** 9 - 2), 4)

    def test_straight_ones_from_the_first_time_on(self):
        way = Way(RING, "a", [(0, 0, "on"), (0, 1, "on"), (0, 2, "on")])
        for number in (0, 1, 7, -999999999):
            self.assertEqual(power_steps(way, number), 3 * abs(number))
        self.assertEqual(power_steps(Way(DOUBLES, "", []), 5), 0)


if __name__ == "__main__":
    unittest.main()
