"""[60] to [64]: what commutes with a round, and its forms."""

import random
import unittest

from tests.helpers import HALVES, OTHER_KINDS, RING, TWINS, anything, as_lists, as_tuples, lists_within, raised
from tests.helpers import random_round, random_way, sample_rounds
from tests.oracles import bare_told
from tests.test_rings import beside
from tests.test_roots import some_rounds
from tests.test_rounds import A, FIRST, IDLE
from tests.test_straights import TURN
from waysback.commuting import common_power, commute, commuting, commuting_form, of_form
from waysback.errors import BadForm, BadOther, BadWay, NotRound
from waysback.goings import put_behind, put_beside, turned_back
from waysback.idles import bare
from waysback.likeness import alike, fewest
from waysback.rings import ring
from waysback.roots import root
from waysback.rounds import carried, no_steps, power
from waysback.straights import is_straight
from waysback.ways import Way

# One part at the first letter, any round at the second.
HELD = put_beside(Way(TWINS, "a", [(0, 0, "on"), (0, 1, "back")]), no_steps(TWINS, "a"))
MIXED_PARTS = beside(power(TURN, 2), no_steps(RING, "ab"), power(TURN, 3), no_steps(RING, "c"))


def drawn_form(rng, way):
    """A form of what commutes with way, its rounds perhaps not bare."""
    told = []
    for item in commuting(way)[1]:
        if item[0] == "word":
            told.append(random_round(rng, way.book(), item[1], rng.randrange(4), len(item[1]) + 3))
        else:
            told.append(rng.randrange(-4, 5))
    return told


def made_bare(form):
    return [bare(thing) if isinstance(thing, Way) else thing for thing in form]


class CommuteTest(unittest.TestCase):
    def test_as_told(self):
        rng = random.Random(230)
        seen = {True: 0, False: 0}
        for way in sample_rounds(231, 9):
            for other in (random_round(rng, way.book(), way.word(), 4), power(way, 2), no_steps(way.book(), way.word())):
                both = bare_told(put_behind(way, other)) == bare_told(put_behind(other, way))
                self.assertIs(commute(way=way, other=other), both)
                seen[both] += 1
        self.assertTrue(min(seen.values()) > 10, seen)

    def test_powers_of_one_round(self):
        for way in sample_rounds(232) + [A, FIRST]:
            for number in (-3, 0, 1, 4):
                self.assertIs(commute(power(way, 2), power(way, number)), True)

    def test_rounds_side_by_side(self):
        rounds = sample_rounds(233, 5)
        for way in rounds:
            for other in rounds:
                if way.book() == other.book():
                    first = put_beside(way, no_steps(way.book(), other.word()))
                    second = put_beside(no_steps(way.book(), way.word()), other)
                    self.assertIs(commute(first, second), True)

    def test_others_do_not(self):
        two = [Way(TWINS, "a", [(0, 0, "on"), (0, 1, "back")]), Way(HALVES, "x", A.steps())]
        self.assertIs(commute(two[0], turned_back(two[0])), True)
        other = Way(HALVES, "x", [(0, 0, "back"), (1, 0, "back"), (2, 0, "back"), (1, 0, "on"), (1, 0, "on"), (0, 0, "on")])
        self.assertIs(commute(A, other), False)
        self.assertIs(commute(put_beside(A, no_steps(HALVES, "x")), carried(put_beside(A, no_steps(HALVES, "x")),
                      Way(HALVES, "xx", [(0, 0, "on"), (0, 0, "back"), (1, 0, "back"), (0, 0, "on")]))), False)

    def test_errors_in_their_order(self):
        leading = Way(RING, "a", [(0, 0, "on")])
        for call in (commute, commuting_form, common_power):
            for thing in anything():
                if not isinstance(thing, Way):
                    error = raised(call, thing, None)
                    self.assertIs(type(error), BadWay)
                    self.assertIs(error.thing, thing)
                error = raised(call, leading, thing)
                self.assertIs(type(error), NotRound)
                self.assertEqual(error.end, "b")
                error = raised(call, TURN, thing)
                self.assertIs(type(error), BadOther)
                self.assertIs(error.thing, thing)
            for wrong in (no_steps(RING, "b"), no_steps(RING, "aa"), no_steps(TWINS, "a")):
                self.assertIs(raised(call, TURN, wrong).thing, wrong)
            error = raised(call, TURN, leading)
            self.assertIs(type(error), NotRound)
            self.assertEqual(error.end, "b")


class CommutingTest(unittest.TestCase):
    def test_carried_to_a_straight_round_item_by_item(self):
        kinds = {"word": 0, "root": 0}
        for way in some_rounds(234) + [MIXED_PARTS]:
            carrier, items = commuting(way=way)
            self.assertEqual((carrier.word(), carrier.book()), (way.word(), way.book()))
            core = carried(way, carrier)
            self.assertTrue(is_straight(core))
            told = ring(core)
            self.assertEqual([item[0] for item in items], ["word" if item[0] == "word" else "root" for item in told])
            rounds = []
            for item, other in zip(items, told):
                kinds[item[0]] += 1
                if item[0] == "word":
                    self.assertEqual(item, other)
                    rounds.append(no_steps(way.book(), item[1]))
                else:
                    self.assertEqual((len(item), item[2]), (3, other[2]))
                    self.assertEqual(item[1], bare_told(item[1]))
                    self.assertEqual(root(item[1]), (item[1], 1))
                    rounds.append(power(item[1], item[2]))
            # The powers of the roots, put side by side, are the straight round.
            whole = no_steps(way.book(), "")
            for one in rounds:
                whole = put_beside(whole, one)
            self.assertEqual(bare(whole), core)
        self.assertTrue(min(kinds.values()) > 30, kinds)

    def test_the_examples(self):
        carrier, items = commuting(Way(HALVES, "x", A.steps()))
        self.assertEqual([(item[0], item[2]) for item in items], [("root", 1)])
        self.assertEqual(commuting(HELD)[1], [("root", Way(TWINS, "a", HELD.steps()), 1), ("word", "a")])
        self.assertEqual(commuting(MIXED_PARTS)[1],
                         [("root", TURN, 2), ("word", "ab"), ("root", TURN, 3), ("word", "c")])

    def test_of_nothing(self):
        for way in (IDLE, no_steps(HALVES, "xx"), no_steps(RING, "")):
            carrier, items = commuting(way)
            self.assertEqual(items, [("word", carrier.end())] if carrier.end() else [])

    def test_bad_way_then_not_round(self):
        for call, more in ((commuting, ()), (of_form, (None,))):
            for thing in anything():
                if not isinstance(thing, Way):
                    error = raised(call, thing, *more)
                    self.assertIs(type(error), BadWay)
                    self.assertIs(error.thing, thing)
            error = raised(call, Way(RING, "a", [(0, 0, "on")]), *more)
            self.assertIs(type(error), NotRound)
            self.assertEqual(error.end, "b")


class FormTest(unittest.TestCase):
    def test_of_each_form_and_back(self):
        rng = random.Random(235)
        for way in some_rounds(236) + [MIXED_PARTS, HELD]:
            for _ in range(3):
                form = drawn_form(rng, way)
                told = of_form(way=way, form=form)
                self.assertEqual(told, bare_told(told))
                self.assertEqual((told.word(), told.end()), (way.word(), way.word()))
                self.assertIs(commute(way, told), True)
                self.assertEqual(commuting_form(way=way, other=told), made_bare(form))
                for change in (as_lists, as_tuples):
                    self.assertEqual(of_form(way, change(form)), told)

    def test_of_what_commutes_and_of_what_does_not(self):
        rng = random.Random(237)
        seen = {True: 0, False: 0}
        for way in some_rounds(238):
            for other in (random_round(rng, way.book(), way.word(), 4, len(way.word()) + 4), power(way, 2)):
                told = commuting_form(way, other)
                both = alike(put_behind(way, other), put_behind(other, way))
                self.assertIs(told is not None, both)
                if told is not None:
                    self.assertEqual(of_form(way, told), bare(other))
                seen[both] += 1
        self.assertTrue(min(seen.values()) > 10, seen)

    def test_of_the_round_itself_its_turns(self):
        self.assertEqual(commuting_form(MIXED_PARTS, MIXED_PARTS), [2, no_steps(RING, "ab"), 3, no_steps(RING, "c")])
        for way in some_rounds(239):
            told = commuting_form(way, way)
            for item, thing in zip(commuting(way)[1], told):
                self.assertEqual(thing, no_steps(way.book(), item[1]) if item[0] == "word" else item[2])

    def test_put_behind_one_another_numbers_are_added(self):
        rng = random.Random(240)
        for way in (MIXED_PARTS, power(A, 3), HELD):
            first, second = drawn_form(rng, way), drawn_form(rng, way)
            both = commuting_form(way, put_behind(of_form(way, first), of_form(way, second)))
            for one, other, told in zip(first, second, both):
                self.assertEqual(told, bare(put_behind(one, other)) if isinstance(one, Way) else one + other)

    def test_rounds_that_are_not_bare(self):
        idle = Way(TWINS, "a", [(0, 0, "on"), (0, 0, "back"), (0, 0, "on"), (0, 1, "back")])
        told = of_form(HELD, [2, idle])
        self.assertEqual(told, bare(put_beside(power(Way(TWINS, "a", HELD.steps()), 2), idle)))
        self.assertEqual(commuting_form(HELD, told), [2, bare(idle)])

    def test_bad_form(self):
        right = no_steps(TWINS, "a")
        wrong = [
            [], [1], [1, right, right], [right, 1], [right, right], [1, 1], [True, right], [1, False], [None, right],
            [1, no_steps(TWINS, "b")], [1, no_steps(TWINS, "aa")], [1, no_steps(HALVES, "a")], ["1", right],
            [1, Way(TWINS, "a", [(0, 0, "on")])], (), (1,), {0: 1, 1: right}, "ab",
        ]
        for thing in OTHER_KINDS + wrong + [HELD, HALVES, [[1], right], [(1,), right]]:
            error = raised(of_form, HELD, thing)
            self.assertIs(type(error), BadForm, repr(thing))
            self.assertIs(error.thing, thing)
        self.assertEqual(of_form(HELD, (0, right)), no_steps(TWINS, "aa"))
        self.assertIs(type(raised(of_form, no_steps(RING, ""), [0])), BadForm)
        self.assertEqual(of_form(no_steps(RING, ""), []), no_steps(RING, ""))

    def test_told_lists_are_new(self):
        told = commuting_form(MIXED_PARTS, MIXED_PARTS)
        told.append(None)
        self.assertEqual(len(commuting_form(MIXED_PARTS, MIXED_PARTS)), 4)
        self.assertEqual(len(lists_within(commuting(MIXED_PARTS))), 1)


class CommonPowerTest(unittest.TestCase):
    def test_the_least_by_trying(self):
        rng = random.Random(241)
        seen = {"none": 0, "on": 0, "back": 0}
        for way in some_rounds(242):
            other = of_form(way, drawn_form(rng, way))
            for pair in ((way, other), (power(way, 2), power(way, rng.choice([-3, -2, 1, 4, 6]))), (way, bare(way))):
                told = common_power(way=pair[0], other=pair[1])
                if told is None:
                    seen["none"] += 1
                    tried = [(m, n) for n in range(1, 4) for m in range(-5, 6) if power(pair[1], n) == power(pair[0], m)]
                    self.assertTrue(not tried or fewest(pair[0]) == 0 or fewest(pair[1]) == 0)
                else:
                    m, n = told
                    seen["on" if m > 0 else "back"] += 1
                    self.assertEqual(power(pair[1], n), power(pair[0], m))
                    for less in range(1, n):
                        done = power(pair[1], less)
                        self.assertFalse([m for m in range(-24, 25) if power(pair[0], m) == done])
        self.assertTrue(min(seen.values()) > 10, seen)

    def test_ratios(self):
        for first, second, told in ((2, 3, (3, 2)), (2, -3, (-3, 2)), (4, 6, (3, 2)), (1, 5, (5, 1)), (6, 3, (1, 2)), (-5, 5, (-1, 1))):
            self.assertEqual(common_power(power(A, first), power(A, second)), told)
            self.assertEqual(common_power(put_beside(power(A, first), power(A, first)),
                                          put_beside(power(A, second), power(A, second))), told)

    def test_none(self):
        nothing = no_steps(HALVES, "x")
        for way, other in ((A, nothing), (nothing, A), (nothing, nothing), (A, put_behind(A, turned_back(A)))):
            self.assertIsNone(common_power(way, other))
        both = put_beside(TURN, TURN)
        # In no ratio, in ratios unlike, at one part alone, not commuting.
        for other in (put_beside(TURN, power(TURN, 2)), put_beside(TURN, no_steps(RING, "a")),
                      put_beside(no_steps(RING, "a"), TURN), put_beside(TURN, turned_back(TURN))):
            self.assertIsNone(common_power(both, other))
        self.assertIsNone(common_power(HELD, put_beside(Way(TWINS, "a", HELD.steps()), Way(TWINS, "a", HELD.steps()))))
        self.assertEqual(common_power(both, power(both, -2)), (-2, 1))
        other = Way(HALVES, "x", [(0, 0, "back"), (1, 0, "back"), (2, 0, "back"), (1, 0, "on"), (1, 0, "on"), (0, 0, "on")])
        self.assertIsNone(common_power(A, other))


if __name__ == "__main__":
    unittest.main()
