"""[50]: sayings over rounds, and words over rounds."""

import itertools
import random
import unittest

from tests.helpers import HALVES, OTHER_KINDS, RING, TURNING, TWINS, anything, as_lists, as_tuples, lists_within
from tests.helpers import raised, random_round, way_told_back
from tests.oracles import bare_told
from tests.test_rounds import A
from waysback.books import Book
from waysback.errors import BadMost, BadOther, BadRounds, BadSaying
from waysback.goings import put_behind, turned_back
from waysback.rounds import carried, no_steps, power
from waysback.sayings import holds, value, words_for
from waysback.ways import Way

B = Way(HALVES, "x", [(0, 0, "back"), (1, 0, "back"), (2, 0, "back"), (1, 0, "on"), (1, 0, "on"), (0, 0, "on")])
IDLE_AT_X = Way(HALVES, "x", [(0, 0, "back"), (0, 0, "on")])
DEEP = ("behind", ("back", ("times", ("around", 0, ("none",)), 3)), ("carried", ("behind", 1, ("back", 0)), ("times", 1, -2)))
EIGHT = ("back", ("back", ("back", ("back", ("back", ("back", ("back", ("behind", 0, 1))))))))


def steps_said(rounds, saying):
    """The steps that a saying says, all of them written out."""
    if isinstance(saying, int):
        return rounds[saying].steps()
    parts = [steps_said(rounds, part) for part in (saying[1:2] if saying[0] == "times" else saying[1:])]
    backs = [way_told_back(Way(rounds[0].book(), rounds[0].word(), part)) for part in parts]
    if saying[0] == "times":
        return (parts[0] if saying[2] > 0 else backs[0]) * abs(saying[2])
    if saying[0] == "none":
        return []
    if saying[0] == "back":
        return backs[0]
    if saying[0] == "behind":
        return parts[0] + parts[1]
    if saying[0] == "carried":
        return backs[1] + parts[0] + parts[1]
    return parts[0] + parts[1] + backs[0] + backs[1]


def drawn_saying(rng, many, deep):
    """A saying over so many rounds, at most so deep."""
    kind = rng.choice(["none", "back", "behind", "times", "carried", "around"]) if deep and rng.random() < 0.8 else "index"
    if kind == "index":
        return rng.randrange(many)
    if kind == "none":
        return ("none",)
    if kind == "times":
        return ("times", drawn_saying(rng, many, deep - 1), rng.randrange(-2, 3))
    parts = 1 if kind == "back" else 2
    return (kind,) + tuple(drawn_saying(rng, many, deep - 1) for _ in range(parts))


def no_sayings(many):
    """Objects that are no sayings over so many rounds."""
    told = [thing for thing in anything() if type(thing) is not int or thing >= many]
    told += [many, -1, True, False, "0", ("index", 0), ("none", 0), ("none", None), ("None",), "none", ["none", []]]
    told += [("back",), ("back", many), ("back", -1), ("back", True), ("back", 0, 0), ("back", None), ("back", "none")]
    for kind in ("behind", "carried", "around"):
        told += [(kind,), (kind, 0), (kind, 0, many), (kind, many, 0), (kind, 0, 0, 0), (kind, None, 0), (kind, 0, ())]
    told += [("times", 0), ("times", 0, True), ("times", 0, None), ("times", 0, "1"), ("times", 0, 0)[:1], ("times", many, 1)]
    told += [("times", 0, 1, 1), ("times", ("none",), ("none",)), ("times", 1), (0,), [0], (0, 0), ((("none",),),)]
    told += [("back", ("back", ("behind", 0, ("back", many)))), ("behind", DEEP, ("times", DEEP, False))]
    return told + [(thing, 0) for thing in OTHER_KINDS]


class ValueTest(unittest.TestCase):
    def test_each_kind(self):
        rounds = [A, B]
        told = {
            0: A, 1: B, ("none",): no_steps(HALVES, "x"), ("back", 1): turned_back(B), ("behind", 0, 1): put_behind(A, B),
            ("times", 1, 3): power(B, 3), ("times", 0, -2): power(A, -2), ("times", 0, 0): no_steps(HALVES, "x"),
            ("carried", 0, 1): carried(A, B),
            ("around", 0, 1): put_behind(put_behind(A, B), put_behind(turned_back(A), turned_back(B))),
        }
        for saying, way in told.items():
            for change in (lambda thing: thing, as_lists, as_tuples):
                self.assertEqual(value(rounds=rounds, saying=change(saying)), bare_told(way), repr(saying))

    def test_deep_ones_and_many_drawn(self):
        rng = random.Random(170)
        for rounds in ([A, B], [B, IDLE_AT_X, A]):
            for saying in [DEEP, EIGHT] + [drawn_saying(rng, len(rounds), 4) for _ in range(60)]:
                steps = steps_said(rounds, saying)
                if len(steps) < 80:
                    expected = bare_told(Way(HALVES, "x", steps))
                    self.assertEqual(value(rounds, saying), expected)
                    self.assertEqual(value(tuple(rounds), as_lists(saying)), expected)
                    self.assertIs(holds(rounds, ("behind", saying, ("back", saying)), ("none",)), True)

    def test_great_times_of_what_is_nothing(self):
        self.assertEqual(value([A], ("times", ("behind", 0, ("back", 0)), 999999999)).steps(), [])

    def test_rounds_of_equal_books_at_one_word(self):
        again = Way(Book([("xx", "x")]), "x", B.steps())
        self.assertIs(holds([A, again, B], 1, 2), True)


class HoldsTest(unittest.TestCase):
    def test_the_examples(self):
        self.assertIs(holds(rounds=[A, B], saying=("around", 0, 1), second=("none",)), False)
        longer = ("around", ("behind", ("back", 1), 0), ("carried", 1, ("back", 0)))
        self.assertIs(holds([A, B], longer, ("none",)), True)

    def test_just_if_they_say_alike_rounds(self):
        rng = random.Random(171)
        for _ in range(80):
            first, second = drawn_saying(rng, 2, 2), drawn_saying(rng, 2, 2)
            self.assertIs(holds([A, B], first, second), value([A, B], first) == value([A, B], second))
        self.assertIs(holds([A, IDLE_AT_X], 1, ["none"]), True)
        self.assertIs(holds([A, B], ("behind", 0, 1), ("behind", 1, 0)), False)
        self.assertIs(holds([A, B], ("times", 0, 2), ("behind", 0, 0)), True)


class ErrorsTest(unittest.TestCase):
    def test_bad_rounds_at_the_first_thing_that_is_none(self):
        calls = ((value, (None,)), (holds, (None, None)), (words_for, (None, None)))
        for call, more in calls:
            for thing in OTHER_KINDS + ["", "ab", A, HALVES, [], (), {0: A}]:
                error = raised(call, thing, *more)
                self.assertIs(type(error), BadRounds)
                self.assertEqual(error.index, 0)
            wrong = [
                thing for thing in anything() if not isinstance(thing, Way)
            ] + [Way(HALVES, "x", [(0, 0, "back")]), Way(HALVES, "xx", []), Way(TWINS, "x", []), Way(HALVES, "", [])]
            for thing in wrong:
                for index in (1, 2):
                    error = raised(call, [A, B][:index] + [thing, None], *more)
                    self.assertIs(type(error), BadRounds)
                    self.assertEqual(error.index, index)
            for thing in (None, Way(HALVES, "x", [(0, 0, "back")])):
                self.assertEqual(raised(call, [thing, A], *more).index, 0)
            self.assertEqual(raised(call, [Way(HALVES, "xx", []), A], *more).index, 1)

    def test_bad_saying_with_the_whole_of_it(self):
        for thing in no_sayings(2):
            for call, given in ((value, ()), (holds, (None,))):
                error = raised(call, [A, B], thing, *given)
                self.assertIs(type(error), BadSaying, repr(thing))
                self.assertIs(error.thing, thing)
            error = raised(holds, [A, B], DEEP, thing)
            self.assertIs(type(error), BadSaying)
            self.assertIs(error.thing, thing)
            whole = ("back", ("carried", 0, thing))
            error = raised(value, [A, B], whole)
            self.assertIs(type(error), BadSaying)
            self.assertIs(error.thing, whole)

    def test_very_deep_objects_that_are_no_sayings(self):
        deep, saying = [], ("none", 0)
        for _ in range(99):
            deep, saying = [deep], ("back", saying)
        for thing in (deep, saying):
            self.assertIs(raised(value, [A], thing).thing, thing)

    def test_bad_other_then_bad_most(self):
        for thing in anything() + [Way(HALVES, "xx", []), Way(TWINS, "x", [])]:
            error = raised(words_for, [A], thing, None)
            self.assertIs(type(error), BadOther)
            self.assertIs(error.thing, thing)
        for thing in OTHER_KINDS + ["", "1", [], (1,), A, -1]:
            if not (type(thing) is int and thing >= 0):
                error = raised(words_for, [A], A, thing)
                self.assertIs(type(error), BadMost, repr(thing))
                self.assertIs(error.thing, thing)


class WordsForTest(unittest.TestCase):
    def words_told(self, rounds, other, most):
        """All words in their order, by trying each row of pairs."""
        pairs = [(index, turn) for index in range(len(rounds)) for turn in ("back", "on")]
        told = []
        for length in range(most + 1):
            for row in itertools.product(pairs, repeat=length):
                if all(one[0] != two[0] or one[1] == two[1] for one, two in zip(row, row[1:])):
                    steps = [step for index, turn in row for step in
                             (rounds[index].steps() if turn == "on" else way_told_back(rounds[index]))]
                    if bare_told(Way(other.book(), other.word(), steps)) == bare_told(other):
                        told.append(list(row))
        return told

    def test_the_example(self):
        self.assertEqual(words_for(rounds=[A], other=power(A, 2), most=4), [[(0, "on"), (0, "on")]])

    def test_all_words_in_their_order(self):
        rng = random.Random(172)
        cases = [([A, B], 3), ([A, A], 3), ([IDLE_AT_X, A], 3), ([A], 4)]
        ring = Way(RING, "a", [(0, 0, "on"), (0, 1, "on"), (0, 2, "on")])
        cases.append(([ring, power(ring, 2), power(ring, -3)], 3))
        cases += [([random_round(rng, TURNING, "xyx", 4), random_round(rng, TURNING, "xyx", 5)], 3) for _ in range(3)]
        for rounds, most in cases:
            none = no_steps(rounds[0].book(), rounds[0].word())
            others = [none, rounds[0], turned_back(rounds[-1]), put_behind(rounds[-1], rounds[0]), power(rounds[0], 2)]
            for other in others:
                for many in range(most + 1):
                    self.assertEqual(words_for(rounds, other, many), self.words_told(rounds, other, many))

    def test_none_and_no_parts(self):
        none = no_steps(HALVES, "x")
        self.assertEqual(words_for([A], none, 0), [[]])
        self.assertEqual(words_for([A, B], A, 0), [])
        self.assertEqual(words_for([A, B], Way(HALVES, "x", [(0, 0, "back")]), 3), [])
        self.assertEqual(words_for([IDLE_AT_X], none, 1), [[], [(0, "back")], [(0, "on")]])

    def test_told_lists_are_new_and_none_stands_twice(self):
        call = words_for([IDLE_AT_X, A], no_steps(HALVES, "x"), 3)
        found = lists_within(call) + lists_within(words_for([IDLE_AT_X, A], no_steps(HALVES, "x"), 3))
        self.assertEqual(len(found), len({id(thing) for thing in found}))


if __name__ == "__main__":
    unittest.main()
