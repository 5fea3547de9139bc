"""[79]: audits by texts alone, of rounds carried into one another, of unlike rings, of roots."""

import random
import unittest

from tests.helpers import RING, TWINS, anything, random_way, sample_rounds
from tests.test_audits import BARE, IDLE, LONG, NO_BOOKS, NO_WAYS, TEXT, sorts_of, text_errors, texts_of
from tests.test_carrying import words_told
from tests.test_rings import beside
from tests.test_rounds import A, BELTS
from tests.test_straights import TURN
from waysback.booktexts import book_fault, book_text
from waysback.carrying import conjugate
from waysback.goings import put_behind, put_beside, turned_back
from waysback.idles import bare
from waysback.likeness import alike, fewest
from waysback.moves import moves
from waysback.movetexts import moves_fault, moves_text
from waysback.rings import ring
from waysback.roots import root
from waysback.roundaudits import audit_carrying, audit_rings, audit_root
from waysback.rounds import carried, no_steps, power
from waysback.straights import is_straight, straight
from waysback.ways import Way
from waysback.waytexts import way_fault, way_text

RING_TEXT = book_text(RING)
TURN_TEXT = "word a\n0 0 on\n0 1 on\n0 2 on\n"
AT_B = "word b\n0 1 on\n0 2 on\n0 0 on\n"
THERE = "word a\n0 0 on\n"
LEADING = "word a\n0 0 on\n"


def number_fault_told(thing):
    """The first wrong sign of a number's text, by trying: each sign has to go on to a number."""
    if not isinstance(thing, str):
        return -1
    if thing == "":
        return 0
    for at in range(len(thing)):
        begun = thing[:at + 1]
        if len(begun) > 9 or not begun.isascii() or not begun.isdecimal() or begun[0] == "0":
            return at
    return None


class AnyObjectsTest(unittest.TestCase):
    def test_nothing_is_raised(self):
        rng = random.Random(360)
        things = anything() + NO_WAYS + NO_BOOKS + [TEXT, IDLE, BARE, "1", "0", LONG, "word x\n", "word xx\n", "exchange 0\n"]
        for audit, many in ((audit_carrying, 5), (audit_rings, 5), (audit_root, 5)):
            for _ in range(300):
                given = [TEXT] + [rng.choice(["word xx\n", "word x\n", rng.choice(things)]) for _ in range(many - 1)]
                told = audit(*given)
                self.assertTrue(told is None or isinstance(told, tuple))
            for thing in things:
                self.assertIsInstance(audit(*[thing] * many), tuple)


class CarryingTest(unittest.TestCase):
    # Way, then carrier, is carrier, then other, step by step.
    RIGHT = [RING_TEXT, TURN_TEXT, AT_B, THERE, ""]

    def test_none_of_what_conjugate_tells(self):
        rng = random.Random(361)
        seen = 0
        for way in sample_rounds(362, 9) + BELTS + [A]:
            other = carried(way, random_way(rng, way.book(), way.word(), 4, 9))
            told = conjugate(way, other)
            if told[0] == "way":
                seen += 1
                ahead, behind = put_behind(way, told[1]), put_behind(told[1], other)
                given = texts_of(way, other, told[1]) + [moves_text(ahead, moves(ahead, behind))]
                self.assertIsNone(audit_carrying(*given))
                self.assertIsNone(audit_carrying(**dict(zip(("book", "way", "other", "carrier", "moves"), given))))
        self.assertGreater(seen, 40)

    def test_text(self):
        text_errors(self, audit_carrying, self.RIGHT, sorts_of(RING, 3))
        ahead = Way(RING, "a", TURN.steps() + [(0, 0, "on")])
        for thing in anything() + ["exchange 0\n", "strike 0\n", "put 4 0 1 on", "put " + LONG, "x"]:
            index = moves_fault(ahead, thing)
            if index is not None:
                self.assertEqual(audit_carrying(*self.RIGHT[:4], thing), ("text", 4, index), repr(thing))

    def test_round_word_and_end_in_this_order(self):
        book, way, other, carrier, _ = self.RIGHT
        self.assertEqual(audit_carrying(book, LEADING, LEADING, "word c\n", None), ("round", 1))
        self.assertEqual(audit_carrying(book, way, LEADING, "word c\n", None), ("round", 2))
        self.assertEqual(audit_carrying(book, way, other, "word c\n", None), ("word", 3))
        self.assertEqual(audit_carrying(book, way, other, "word a\n", None), ("end", 3))
        self.assertEqual(audit_carrying(book, way, other, carrier, None), ("text", 4, -1))

    def test_end_of_the_moves(self):
        self.assertIsNone(audit_carrying(*self.RIGHT))
        self.assertEqual(audit_carrying(*self.RIGHT[:4], "put 0 0 0 on\n"), ("end", 4))
        back = way_text(turned_back(TURN))
        self.assertEqual(audit_carrying(RING_TEXT, TURN_TEXT, back, "word a\n", ""), ("end", 4))


class RingsTest(unittest.TestCase):
    RIGHT = [RING_TEXT, TURN_TEXT, way_text(turned_back(TURN)), "word a\n", "word a\n"]

    def test_just_of_unlike_rings(self):
        rounds = sample_rounds(363, 8)
        seen = {None: 0, ("same", 4): 0}
        for way in rounds:
            for other in rounds:
                if way.book() == other.book():
                    given = texts_of(way, other, straight(way)[0], straight(other)[0])
                    (parts, words), (others, second) = words_told(way), words_told(other)
                    apart = parts != others or any((one == "") != (two == "") for one, two in zip(words, second))
                    told = audit_rings(**dict(zip(("book", "way", "other", "first", "second"), given)))
                    self.assertEqual(told, None if apart else ("same", 4))
                    self.assertIs(told is None, conjugate(way, other) == ("unlike",))
                    seen[told] += 1
        self.assertTrue(min(seen.values()) > 20, seen)

    def test_text(self):
        text_errors(self, audit_rings, self.RIGHT, sorts_of(RING, 4))

    def test_round_then_word(self):
        self.assertEqual(audit_rings(RING_TEXT, LEADING, LEADING, "word b\n", "word b\n"), ("round", 1))
        self.assertEqual(audit_rings(RING_TEXT, TURN_TEXT, LEADING, "word b\n", "word b\n"), ("round", 2))
        self.assertEqual(audit_rings(RING_TEXT, TURN_TEXT, AT_B, "word b\n", "word a\n"), ("word", 3))
        self.assertEqual(audit_rings(RING_TEXT, TURN_TEXT, AT_B, "word a\n", "word a\n"), ("word", 4))
        self.assertEqual(audit_rings(RING_TEXT, TURN_TEXT, AT_B, "word a\n", "word b\n"), ("same", 4))

    def test_straight(self):
        none = "word x\n"
        self.assertFalse(is_straight(A))
        self.assertEqual(audit_rings(*texts_of(A, power(A, 2)), none, none), ("straight", 3))
        there = way_text(straight(A)[0])
        self.assertEqual(audit_rings(*texts_of(A, power(A, 2)), there, none), ("straight", 4))
        self.assertIsNone(audit_rings(*texts_of(A, power(A, 2)), there, way_text(straight(power(A, 2))[0])))
        # It is the bare round that has to be straight.
        idle = way_text(Way(RING, "a", TURN.steps() + [(0, 0, "on"), (0, 0, "back")]))
        self.assertIsNone(audit_rings(RING_TEXT, idle, self.RIGHT[2], "word a\n", "word a\n"))

    def test_same(self):
        words = [beside(no_steps(RING, "a"), TURN), beside(no_steps(RING, "bc"), TURN), beside(TURN, no_steps(RING, "a"))]
        none = ["word %s\n" % way.word() for way in words]
        self.assertEqual(audit_rings(*texts_of(words[0], words[1]), none[0], none[1]), ("same", 4))
        self.assertIsNone(audit_rings(*texts_of(words[0], words[2]), none[0], none[2]))
        self.assertEqual(audit_rings(*texts_of(no_steps(RING, "a"), no_steps(RING, "b")), "word a\n", "word b\n"), ("same", 4))
        self.assertIsNone(audit_rings(*texts_of(no_steps(RING, "a"), no_steps(RING, "")), "word a\n", "word \n"))


class RootTest(unittest.TestCase):
    RIGHT = [RING_TEXT, way_text(Way(RING, "a", TURN.steps() * 6)), TURN_TEXT, "6", "word a\n"]

    def test_none_of_what_root_tells(self):
        rng = random.Random(364)
        seen = 0
        for way in sample_rounds(365, 9) + BELTS + [A, power(A, 6)]:
            way = carried(power(way, rng.choice([1, 2, -3])), random_way(rng, way.book(), way.word(), 3, 9))
            told, number = root(way)
            given = texts_of(way, told) + [str(number), way_text(straight(told)[0])]
            if number == 0:
                self.assertEqual(audit_root(*given), ("text", 3, 0))
                given[3] = "1"
                self.assertEqual(audit_root(*given), ("turns", 4))
            else:
                seen += 1
                self.assertIsNone(audit_root(*given))
                self.assertIsNone(audit_root(**dict(zip(("book", "way", "root", "number", "carrier"), given))))
                if number > 1:
                    itself = texts_of(way, way) + ["1", way_text(straight(way)[0])]
                    self.assertEqual(audit_root(*itself), ("turns", 4))
        self.assertGreater(seen, 40)

    def test_text(self):
        sorts = [book_fault] + [lambda thing: way_fault(RING, thing)] * 2
        sorts += [number_fault_told, lambda thing: way_fault(RING, thing)]
        text_errors(self, audit_root, self.RIGHT, sorts)

    def test_number_texts(self):
        for text, index in (
            ("", 0), ("0", 0), ("01", 0), ("+1", 0), (" 1", 0), ("-1", 0), ("1 ", 1), ("1\n", 1), ("12a", 2), ("1234567890", 9),
            ("9" * 5000, 9), ("0" * 5000, 0), ("\u0661", 0), ("1\u0661", 1), ("1_0", 1), ("six", 0), (None, -1), (6, -1), (["6"], -1),
        ):
            self.assertEqual(number_fault_told(text), index)
            self.assertEqual(audit_root(*self.RIGHT[:3], text, None), ("text", 3, index), repr(text))
        for text in ("1", "10", "123456789", "999999999"):
            self.assertEqual(audit_root(*self.RIGHT[:3], text, None), ("text", 4, -1))
            self.assertEqual(audit_root(*self.RIGHT[:3], text, "word a\n"), ("end", 3))
        self.assertIsNone(audit_root(*self.RIGHT))

    def test_round_then_word(self):
        book, way, told, number, carrier = self.RIGHT
        self.assertEqual(audit_root(book, LEADING, LEADING, "1", "word c\n"), ("round", 1))
        self.assertEqual(audit_root(book, way, LEADING, "1", "word c\n"), ("round", 2))
        self.assertEqual(audit_root(book, way, AT_B, "1", "word c\n"), ("word", 2))
        self.assertEqual(audit_root(book, way, told, "1", "word b\n"), ("word", 4))
        self.assertEqual(audit_root(book, way, told, "1", carrier), ("end", 3))

    def test_end(self):
        book, way, told, _, carrier = self.RIGHT
        for number in ("1", "5", "7", "12", "999999999"):
            self.assertEqual(audit_root(book, way, told, number, carrier), ("end", 3))
        self.assertEqual(audit_root(book, way, way_text(turned_back(TURN)), "6", carrier), ("end", 3))
        # As many boxes around, but another round.
        other = Way(TWINS, "a", [(0, 0, "on"), (0, 1, "back")])
        self.assertEqual(audit_root(*texts_of(power(other, 2), turned_back(other)), "2", "word a\n"), ("end", 3))
        self.assertIsNone(audit_root(*texts_of(power(other, 2), other), "2", "word a\n"))
        # Nothing done however often is nothing.
        nothing = "word a\n"
        self.assertEqual(audit_root(book, way, nothing, "999999999", carrier), ("end", 3))
        self.assertEqual(audit_root(book, nothing, told, "1", carrier), ("end", 3))
        self.assertEqual(audit_root(book, nothing, nothing, "999999999", carrier), ("turns", 4))

    def test_it_is_done_just_if_the_boxes_are_as_many(self):
        for way in sample_rounds(366, 6):
            told, number = root(way)
            for times in (1, 2, 3):
                given = texts_of(way, told) + [str(times), way_text(straight(told)[0])]
                wanted = None if alike(power(told, times), way) and fewest(way) else ("end", 3)
                if fewest(way) == 0:
                    wanted = ("turns", 4)
                self.assertEqual(audit_root(*given), wanted)

    def test_straight_then_turns(self):
        given = texts_of(power(A, 6), A) + ["6"]
        self.assertEqual(audit_root(*given, "word x\n"), ("straight", 4))
        self.assertIsNone(audit_root(*given, way_text(straight(A)[0])))
        way = power(TURN, 6)
        self.assertEqual(audit_root(*texts_of(way, power(TURN, 2)), "3", "word a\n"), ("turns", 4))
        both = beside(power(TURN, 2), no_steps(RING, "b"), power(TURN, 3))
        self.assertIsNone(audit_root(*texts_of(power(both, 2), both), "2", "word aba\n"))
        twice = put_beside(power(TURN, 4), power(TURN, 6))
        self.assertEqual(audit_root(*texts_of(twice, twice), "1", "word aa\n"), ("turns", 4))
        self.assertEqual([item[2] for item in ring(twice)], [4, 6])

    def test_rounds_that_are_not_bare(self):
        idle = Way(RING, "a", TURN.steps() + [(0, 0, "on"), (0, 0, "back")])
        self.assertIsNone(audit_root(*texts_of(idle, idle), "1", "word a\n0 0 on\n"))
        self.assertEqual(bare(idle), TURN)
        # A carrier may lead anywhere.
        self.assertIsNone(audit_root(*texts_of(idle, TURN), "1", way_text(put_behind(TURN, TURN))))


if __name__ == "__main__":
    unittest.main()
