"""[80]: papers for which audits tell None."""

import random
import unittest

from tests.helpers import RING, anything, raised, random_way, sample_rounds
from tests.test_audits import samples
from tests.test_rings import beside
from tests.test_rounds import A, BELTS, FIRST, IDLE
from tests.test_straights import TURN
from waysback.audits import audit_alike, audit_merge, audit_middle, audit_odds, audit_unlike
from waysback.booktexts import book_text
from waysback.carrying import conjugate
from waysback.errors import BadOther, BadThird, BadWay, NotRound
from waysback.goings import put_beside, turned_back
from waysback.likeness import alike, fewest
from waysback.merges import merged
from waysback.papers import alike_paper, carrying_paper, merge_paper, middle_paper, odds_paper, parted_paper
from waysback.papers import rings_paper, root_paper
from waysback.roundaudits import audit_carrying, audit_rings, audit_root
from waysback.rounds import carried, no_steps, power
from waysback.ways import Way
from waysback.waytexts import way_text

AUDITS = {
    alike_paper: audit_alike, parted_paper: audit_unlike, merge_paper: audit_merge, odds_paper: audit_odds,
    middle_paper: audit_middle, carrying_paper: audit_carrying, rings_paper: audit_rings, root_paper: audit_root,
}
LENGTHS = {
    alike_paper: 4, parted_paper: 5, merge_paper: 5, odds_paper: 6, middle_paper: 5, carrying_paper: 5, rings_paper: 5,
    root_paper: 5,
}


def rounds_told(seed):
    """Pairs of rounds of one book, some carried into one another."""
    rng = random.Random(seed)
    rounds = sample_rounds(seed, 9) + BELTS + [A, FIRST, IDLE]
    told = []
    for way in rounds:
        told.append((way, carried(way, random_way(rng, way.book(), way.word(), 4, 9))))
        others = [other for other in rounds if other.book() == way.book()]
        told.append((way, rng.choice(others)))
    return told


class PaperTest(unittest.TestCase):
    def held(self, call, ways, there):
        """Looks at what a paper is, that it is there just if it is to be, and that no other text will do."""
        told = call(*ways)
        self.assertEqual(call(*ways), told)
        if not there:
            self.assertIsNone(told)
            return
        self.assertEqual((type(told), len(told)), (tuple, LENGTHS[call]))
        self.assertTrue(all(isinstance(text, str) for text in told))
        self.assertEqual(list(told[:1 + len(ways)]), [book_text(ways[0].book())] + [way_text(way) for way in ways])
        audit = AUDITS[call]
        self.assertIsNone(audit(*told))
        for which in range(len(told)):
            for other in (told[which] + "x", told[which][:-1] or "x", None):
                self.assertIsNotNone(audit(*told[:which], other, *told[which + 1:]))

    def test_just_one_of_alike_and_parted(self):
        seen = {True: 0, False: 0}
        for way, other, third in samples(370, 8):
            for pair in ((way, other), (third, Way(way.book(), way.word(), third.steps()))):
                both = alike(*pair)
                self.held(alike_paper, pair, both)
                self.held(parted_paper, pair, not both)
                seen[both] += 1
        self.assertTrue(min(seen.values()) > 20, seen)

    def test_just_one_of_merge_and_odds(self):
        seen = {True: 0, False: 0}
        for three in samples(371, 10):
            fits = merged(three[0], list(three[1:]))[0] == "way"
            self.held(merge_paper, three, fits)
            self.held(odds_paper, three, not fits)
            seen[fits] += 1
        self.assertTrue(min(seen.values()) > 8, seen)

    def test_middle(self):
        for three in samples(372, 8):
            self.held(middle_paper, three, True)

    def test_at_most_one_of_carrying_and_rings(self):
        seen = {"way": 0, "unlike": 0, "words": 0}
        for pair in rounds_told(373):
            told = conjugate(*pair)
            self.held(carrying_paper, pair, told[0] == "way")
            self.held(rings_paper, pair, told[0] == "unlike")
            seen[told[0]] += 1
        self.assertTrue(min(seen.values()) > 5, seen)

    def test_root(self):
        seen = {True: 0, False: 0}
        for way, other in rounds_told(374):
            for one in (way, power(other, 2)):
                there = fewest(one) > 0
                self.held(root_paper, (one,), there)
                seen[there] += 1
        self.assertTrue(min(seen.values()) > 5, seen)

    def test_samples(self):
        self.assertEqual(
            alike_paper(Way(A.book(), "xx", [(0, 0, "back"), (2, 0, "back"), (0, 0, "on")]), Way(A.book(), "xx", [(1, 0, "back")])),
            ("rule xx to x\n", "word xx\n0 0 back\n2 0 back\n0 0 on\n", "word xx\n1 0 back\n", "exchange 1\nstrike 0\n"),
        )
        self.held(carrying_paper, (TURN, carried(TURN, Way(RING, "a", [(0, 0, "on")]))), True)
        self.held(rings_paper, (TURN, turned_back(TURN)), True)
        words = (put_beside(TURN, no_steps(RING, "b")), put_beside(TURN, no_steps(RING, "c")))
        self.held(carrying_paper, words, False)
        self.held(rings_paper, words, False)
        self.held(rings_paper, (words[0], beside(no_steps(RING, "b"), TURN)), True)
        self.assertEqual(root_paper(power(TURN, 2))[2:], (way_text(TURN), "2", "word a\n"))

    def test_errors_of_ways(self):
        first = Way(RING, "ab", [(0, 0, "on")])
        for thing in anything():
            if not isinstance(thing, Way):
                for call, more in ((alike_paper, 1), (parted_paper, 1), (merge_paper, 2), (odds_paper, 2), (middle_paper, 2)):
                    error = raised(call, thing, *[None] * more)
                    self.assertIs(type(error), BadWay)
                    self.assertIs(error.thing, thing)
            for call in (alike_paper, parted_paper):
                error = raised(call, first, thing)
                self.assertIs(type(error), BadOther)
                self.assertIs(error.thing, thing)
            for call in (merge_paper, odds_paper, middle_paper):
                error = raised(call, first, thing, None)
                self.assertIs(type(error), BadOther)
                self.assertIs(error.thing, thing)
                error = raised(call, first, first, thing)
                self.assertIs(type(error), BadThird)
                self.assertIs(error.thing, thing)
        elsewhere = no_steps(RING, "a")
        self.assertIs(raised(merge_paper, first, elsewhere, None).thing, elsewhere)
        self.assertIs(raised(odds_paper, first, first, elsewhere).thing, elsewhere)

    def test_errors_of_rounds(self):
        leading = Way(RING, "a", [(0, 0, "on")])
        for thing in anything():
            for call, more in ((carrying_paper, (None,)), (rings_paper, (None,)), (root_paper, ())):
                if not isinstance(thing, Way):
                    error = raised(call, thing, *more)
                    self.assertIs(type(error), BadWay)
                    self.assertIs(error.thing, thing)
                error = raised(call, leading, *more)
                self.assertIs(type(error), NotRound)
                self.assertEqual(error.end, "b")
                if more:
                    error = raised(call, TURN, thing)
                    self.assertIs(type(error), BadOther)
                    self.assertIs(error.thing, thing)
                    error = raised(call, TURN, leading)
                    self.assertIs(type(error), NotRound)
                    self.assertEqual(error.end, "b")

    def test_parameters_by_name(self):
        way, other, third = samples(375, 1)[0]
        self.assertEqual(middle_paper(third=third, other=other, way=way), middle_paper(way, other, third))
        self.assertEqual(merge_paper(other=third, line=other, base=way), merge_paper(way, other, third))
        self.assertEqual(odds_paper(other=third, line=other, base=way), odds_paper(way, other, third))
        self.assertEqual(parted_paper(other=other, way=way), parted_paper(way, other))
        self.assertEqual(rings_paper(other=turned_back(TURN), way=TURN), rings_paper(TURN, turned_back(TURN)))


if __name__ == "__main__":
    unittest.main()
