"""[56]: ways that carry one round into another, or what it hangs on that there is one."""

import random
import unittest

from tests.helpers import HALVES, RING, ROUND_BOOKS, SWAPS, TWINS, anything, raised, random_round, random_way
from tests.helpers import sample_rounds, way_told_back
from tests.oracles import bare_told
from tests.test_rings import beside
from tests.test_rounds import A, BELTS, FIRST, IDLE
from tests.test_straights import TURN
from waysback.carrying import carrying_wrong, conjugate
from waysback.errors import BadOther, BadWay, NotRound
from waysback.goings import put_behind, put_beside, turned_back
from waysback.idles import bare
from waysback.rings import ring
from waysback.rounds import carried, no_steps, power
from waysback.straights import straight
from waysback.ways import Way

HELD = Way(TWINS, "a", [(0, 0, "on"), (0, 1, "back")])
LEADING = Way(RING, "ab", [(0, 0, "on")])


def words_told(way):
    """The words of circles in their places, and the parts, of the straight round that straight tells."""
    parts, words = [], [""]
    for item in ring(straight(way)[1]):
        if item[0] == "part":
            parts.append(item[1])
            words.append("")
        else:
            words[-1] = item[1]
    return parts, words


class ConjugateTest(unittest.TestCase):
    def held(self, way, other, told):
        """Looks at what conjugate tells, by the rings alone and by what the way that is told does."""
        (parts, words), (others, beside_them) = words_told(way), words_told(other)
        pairs = list(zip(words, beside_them))
        if parts != others or any((mine == "") != (theirs == "") for mine, theirs in pairs):
            self.assertEqual(told, ("unlike",))
        elif words != beside_them:
            self.assertEqual(told, ("words", [pair for pair in pairs if pair[0] != pair[1]]))
        else:
            self.assertEqual((len(told), told[0]), (2, "way"))
            carrier = told[1]
            self.assertEqual((carrier.word(), carrier.end(), carrier.book()), (way.word(), other.word(), way.book()))
            whole = Way(way.book(), carrier.end(), way_told_back(carrier) + way.steps() + carrier.steps())
            self.assertEqual(bare_told(whole), bare_told(other))
            self.assertIsNone(carrying_wrong(way, other, carrier))

    def test_rounds_carried_along_ways(self):
        rng = random.Random(210)
        seen = {"way": 0, "words": 0}
        for way in sample_rounds(211, 18) + BELTS + [A, FIRST, IDLE]:
            for number in (1, 2, -3):
                many = power(way, number)
                other = carried(many, random_way(rng, way.book(), way.word(), rng.randrange(8), 9))
                told = conjugate(way=many, other=other)
                self.assertNotEqual(told, ("unlike",))
                self.held(many, other, told)
                seen[told[0]] += 1
        self.assertTrue(seen["way"] > 100 and seen["words"] > 10, seen)

    def test_rounds_of_one_book(self):
        rounds = sample_rounds(212, 9)
        seen = {"unlike": 0, "words": 0, "way": 0}
        for way in rounds:
            for other in rounds:
                if way.book() == other.book():
                    told = conjugate(way, other)
                    self.held(way, other, told)
                    seen[told[0]] += 1
        self.assertTrue(all(many > 10 for many in seen.values()), seen)

    def test_rounds_side_by_side_carried_apart(self):
        rng = random.Random(213)
        for book in ROUND_BOOKS:
            letters = sorted({letter for rule in book.rules() for side in rule for letter in side})
            for _ in range(6):
                rounds = [random_round(rng, book, rng.choice(letters), 4) for _ in range(3)]
                others = [carried(one, random_way(rng, book, one.word(), 4, 6)) for one in rounds]
                self.held(beside(*rounds), beside(*others), conjugate(beside(*rounds), beside(*others)))

    def test_the_example(self):
        ring_at_a = put_beside(TURN, no_steps(RING, "b"))
        ring_at_c = put_beside(TURN, no_steps(RING, "c"))
        self.assertEqual(conjugate(ring_at_a, ring_at_c), ("words", [("b", "c")]))
        self.assertIsNone(carrying_wrong(ring_at_a, ring_at_c, Way(RING, "ab", [(1, 1, "on")])))
        self.assertEqual(conjugate(turned_back(TURN), TURN), ("unlike",))
        kind, carrier = conjugate(TURN, carried(TURN, Way(RING, "a", [(0, 0, "on")])))
        self.assertEqual((kind, carrier.end()), ("way", "b"))

    def test_words_ahead_of_between_and_behind_the_parts(self):
        first = beside(no_steps(RING, "ab"), TURN, no_steps(RING, "a"), TURN, no_steps(RING, "c"))
        second = beside(no_steps(RING, "ca"), TURN, no_steps(RING, "b"), TURN, no_steps(RING, "a"))
        self.assertEqual(conjugate(first, second), ("words", [("ab", "ca"), ("a", "b"), ("c", "a")]))
        third = beside(no_steps(RING, "ab"), TURN, no_steps(RING, "b"), TURN, no_steps(RING, "c"))
        self.assertEqual(conjugate(first, third), ("words", [("a", "b")]))
        self.assertEqual(conjugate(first, first)[0], "way")

    def test_a_word_in_a_place_of_one_alone(self):
        both = beside(TURN, TURN)
        for other in (beside(no_steps(RING, "a"), TURN, TURN), beside(TURN, no_steps(RING, "a"), TURN),
                      beside(TURN, TURN, no_steps(RING, "a"))):
            self.assertEqual(conjugate(both, other), ("unlike",))
            self.assertEqual(conjugate(other, both), ("unlike",))

    def test_no_part(self):
        self.assertEqual(conjugate(no_steps(RING, "ab"), no_steps(RING, "c")), ("words", [("ab", "c")]))
        self.assertEqual(conjugate(no_steps(RING, "ab"), no_steps(RING, "")), ("unlike",))
        self.assertEqual(conjugate(no_steps(RING, ""), no_steps(RING, "")), ("way", no_steps(RING, "")))
        self.assertEqual(conjugate(no_steps(RING, "ab"), no_steps(RING, "ab")), ("way", no_steps(RING, "ab")))
        self.assertEqual(conjugate(IDLE, no_steps(HALVES, "x")), ("words", [("xx", "x")]))

    def test_words_of_a_part_struck_are_led_into_one_another(self):
        # Straight rounds keep a circle of either side of the rule, whichever the way to them leaves.
        told = conjugate(Way(SWAPS, "ab", [(0, 0, "on"), (0, 0, "back")]), no_steps(SWAPS, "ba"))
        self.assertEqual(told, ("words", [("ab", "ba")]))

    def test_parts_in_another_order(self):
        twice = power(TURN, 2)
        self.assertEqual(conjugate(put_beside(TURN, twice), put_beside(twice, TURN)), ("unlike",))

    def test_the_same_way_each_time(self):
        for way in sample_rounds(214, 4):
            other = carried(way, random_way(random.Random(5), way.book(), way.word(), 5, 9))
            self.assertEqual(conjugate(way, other), conjugate(way, other))


class CarryingWrongTest(unittest.TestCase):
    def test_form(self):
        for thing in anything():
            if not isinstance(thing, Way) or thing.book() != RING:
                self.assertEqual(carrying_wrong(TURN, TURN, thing=thing), ("form",))

    def test_ends(self):
        other = carried(TURN, Way(RING, "a", [(0, 0, "on")]))
        for thing in (no_steps(RING, "a"), no_steps(RING, "b"), no_steps(RING, "ab"), Way(RING, "b", [(0, 0, "back")])):
            self.assertEqual(carrying_wrong(TURN, other, thing), ("ends",))

    def test_unlike_and_none(self):
        other = carried(TURN, Way(RING, "a", [(0, 0, "on")]))
        self.assertIsNone(carrying_wrong(way=TURN, other=other, thing=Way(RING, "a", [(0, 0, "on")])))
        self.assertIsNone(carrying_wrong(TURN, other, Way(RING, "a", [(0, 2, "back"), (0, 1, "back")])))
        self.assertEqual(carrying_wrong(TURN, turned_back(TURN), no_steps(RING, "a")), ("unlike",))
        self.assertEqual(carrying_wrong(A, power(A, 2), no_steps(HALVES, "x")), ("unlike",))
        self.assertIsNone(carrying_wrong(A, A, power(A, 3)))
        self.assertIsNone(carrying_wrong(HELD, HELD, HELD))

    def test_just_if_both_ways_round_are_alike(self):
        rng = random.Random(215)
        seen = {None: 0, ("unlike",): 0}
        for way in sample_rounds(216) + [A, FIRST]:
            thing = random_way(rng, way.book(), way.word(), 4, 9)
            others = [carried(way, thing), Way(way.book(), thing.end(), []), power(carried(way, thing), 2)]
            for other in others:
                same = bare(put_behind(way, thing)) == bare(put_behind(thing, other))
                told = carrying_wrong(way, other, thing)
                self.assertEqual(told, None if same else ("unlike",))
                seen[told] += 1
        self.assertTrue(min(seen.values()) > 20, seen)

    def test_errors_in_their_order(self):
        for call, more in ((conjugate, ()), (carrying_wrong, (None,))):
            for thing in anything():
                if not isinstance(thing, Way):
                    error = raised(call, thing, None, *more)
                    self.assertIs(type(error), BadWay)
                    self.assertIs(error.thing, thing)
                error = raised(call, LEADING, thing, *more)
                self.assertIs(type(error), NotRound)
                self.assertEqual(error.end, "bb")
                error = raised(call, TURN, thing, *more)
                self.assertIs(type(error), BadOther)
                self.assertIs(error.thing, thing)
            error = raised(call, TURN, LEADING, *more)
            self.assertIs(type(error), NotRound)
            self.assertEqual(error.end, "bb")
            self.assertIs(type(raised(call, TURN, Way(TWINS, "ab", [(0, 0, "on")]), *more)), BadOther)


if __name__ == "__main__":
    unittest.main()
