"""[77], [78]: audits by texts alone, of ways alike and unlike, of merges, odds and middles."""

import random
import unittest

from tests.helpers import BOOKS, DOUBLES, TWINS, anything, drawn_ways, raised, random_way
from tests.oracles import event_keys, events_told, key
from waysback.audits import audit_alike, audit_merge, audit_middle, audit_odds, audit_unlike
from waysback.books import Book
from waysback.booktexts import book_fault, book_text
from waysback.events import at_odds, events
from waysback.goings import put_behind, turned_back
from waysback.idles import bare
from waysback.likeness import alike, distance
from waysback.merges import merged
from waysback.middles import middle
from waysback.moves import moves
from waysback.movetexts import moves_fault, moves_text
from waysback.pictures import leftmost
from waysback.unlikes import unlike_paper
from waysback.ways import Way
from waysback.waytexts import way_fault, way_text

TEXT = "rule xx to x\n"
IDLE = "word xx\n0 0 back\n2 0 back\n0 0 on\n"
BARE = "word xx\n1 0 back\n"
TWO = Book([("a", "b"), ("a", "c")])
TWO_TEXT = "rule a to b\nrule a to c\n"
LONG = "9" * 5000
# Texts, and other objects, of which each is none of its sort.
NO_WAYS = ["", "word", "word xx", "word X\n", "word xx\n9 0 on\n", "word xx\n0 0 on", "word xx\n" + LONG + " 0 on\n",
           "word xx\n0 " + LONG + " on\n", "word x x\n", TEXT]
NO_BOOKS = ["rule", "rule a to b", "rule a to \n", "x", "rule A to b\n", LONG, "word xx\n"]


def text_errors(test, audit, right, sorts):
    """Looks that each text that is none of its sort is told, ahead of what stands behind it.

    Sorts are, for each text, functions of the book that tell its fault.
    """
    assert audit(*right) is None
    for which, fault in enumerate(sorts):
        for thing in anything() + NO_WAYS + NO_BOOKS + ["0", "01"]:
            index = fault(thing)
            if index is not None:
                told = audit(*right[:which], thing, *right[which + 1:])
                test.assertEqual(told, ("text", which, index), repr(thing))
                if which + 1 < len(sorts):
                    told = audit(*right[:which], thing, *[None] * (len(right) - which - 1))
                    test.assertEqual(told, ("text", which, index), repr(thing))


def sorts_of(book, ways):
    """The functions that tell faults of a book's text and of so many ways'."""
    return [book_fault] + [lambda thing: way_fault(book, thing)] * ways


def samples(seed, count):
    """Triples of ways of one book from one word."""
    rng = random.Random(seed)
    told = []
    for book in BOOKS:
        letters = sorted({letter for rule in book.rules() for side in rule for letter in side} | {"a"})
        for _ in range(count):
            word = "".join(rng.choice(letters) for _ in range(rng.randrange(1, 5)))
            told.append(tuple(drawn_ways(rng, book, word, 3, 5)))
    return told


def texts_of(*ways):
    return [book_text(ways[0].book())] + [way_text(way) for way in ways]


class AnyObjectsTest(unittest.TestCase):
    def test_nothing_is_raised(self):
        rng = random.Random(340)
        things = anything() + NO_WAYS + NO_BOOKS + [TEXT, IDLE, BARE, "exchange 1\nstrike 0\n", "put 0 " + LONG + " 0 on\n"]
        for audit, many in ((audit_alike, 4), (audit_unlike, 5), (audit_merge, 5), (audit_odds, 6), (audit_middle, 5)):
            for _ in range(300):
                given = [TEXT] + [rng.choice([IDLE, BARE, rng.choice(things)]) for _ in range(many - 1)]
                told = audit(*given)
                self.assertTrue(told is None or isinstance(told, tuple))
            for thing in things:
                self.assertIsInstance(audit(*[thing] * many), tuple)


class AlikeTest(unittest.TestCase):
    def test_the_example(self):
        self.assertIsNone(audit_alike(book=TEXT, way=IDLE, other=BARE, moves="exchange 1\nstrike 0\n"))
        self.assertEqual(audit_alike(TEXT, IDLE, BARE, "strike 0\n"), ("text", 3, 0))
        self.assertEqual(audit_alike(TEXT, IDLE, BARE, "exchange 1\n"), ("end", 3))

    def test_none_of_moves_that_lead_there(self):
        for way, other, _ in samples(341, 8):
            told = moves(way, other)
            if told is not None:
                self.assertIsNone(audit_alike(*texts_of(way, other), moves_text(way, told)))
            back = moves_text(way, moves(way, bare(way)))
            self.assertIsNone(audit_alike(*texts_of(way, bare(way)), back))
            self.assertEqual(audit_alike(*texts_of(way, other), back), None if bare(way) == other else ("end", 3))

    def test_text(self):
        right = [TEXT, IDLE, BARE, "exchange 1\nstrike 0\n"]
        book = Book([("xx", "x")])
        text_errors(self, audit_alike, right, sorts_of(book, 2))
        way = Way(book, "xx", [(0, 0, "back"), (2, 0, "back"), (0, 0, "on")])
        for thing in anything() + ["exchange 1\nstrike 0", "exchange 0\n", "exchange 1\nstrike 1\n", "exchange " + LONG + "\n", LONG]:
            index = moves_fault(way, thing)
            if index is not None:
                self.assertEqual(audit_alike(*right[:3], thing), ("text", 3, index), repr(thing))

    def test_word_ahead_of_moves(self):
        for thing in anything() + ["exchange 1\nstrike 0\n"]:
            self.assertEqual(audit_alike(TEXT, IDLE, "word x\n", thing), ("word", 2))

    def test_end(self):
        self.assertEqual(audit_alike(TEXT, IDLE, BARE, ""), ("end", 3))
        self.assertIsNone(audit_alike(TEXT, IDLE, IDLE, ""))
        self.assertEqual(audit_alike(TEXT, IDLE, BARE, "exchange 1\nstrike 0\nput 1 0 0 on\n"), ("end", 3))


class UnlikeTest(unittest.TestCase):
    RIGHT = [TEXT, "word xxx\n1 0 on\n0 0 on\n", "word xxx\n2 0 back\n0 0 on\n", "", "exchange 0\n"]

    def test_none_of_what_unlike_paper_tells(self):
        seen = 0
        for way, other, _ in samples(342, 8):
            told = unlike_paper(way, other)
            if told is None:
                led = [moves_text(one, moves(one, bare(one))) for one in (way, other)]
                self.assertEqual(audit_unlike(*texts_of(way, other), *led), ("same", 4))
            else:
                seen += 1
                given = texts_of(way, other) + [moves_text(way, told[0]), moves_text(other, told[1])]
                self.assertIsNone(audit_unlike(*given))
                by_name = dict(zip(("book", "way", "other", "first", "second"), given))
                self.assertIsNone(audit_unlike(**by_name))
        self.assertGreater(seen, 20)

    def test_text(self):
        book = Book([("xx", "x")])
        self.assertIsNone(audit_unlike(*self.RIGHT))
        text_errors(self, audit_unlike, self.RIGHT, sorts_of(book, 2))
        ways = [Way(book, "xxx", [(1, 0, "on"), (0, 0, "on")]), Way(book, "xxx", [(2, 0, "back"), (0, 0, "on")])]
        for thing in anything() + ["exchange 0\n", "strike 0\n", "exchange 0\nx", "put 0 " + LONG]:
            for which, way in ((3, ways[0]), (4, ways[1])):
                index = moves_fault(way, thing)
                if index is not None:
                    given = list(self.RIGHT)
                    given[which] = thing
                    self.assertEqual(audit_unlike(*given), ("text", which, index), repr(thing))

    def test_word_ahead_of_moves(self):
        self.assertEqual(audit_unlike(TEXT, IDLE, "word x\n", None, None), ("word", 2))

    def test_bare(self):
        # Idle, and not in the leftmost order; each ahead of what is wrong behind it.
        self.assertEqual(audit_unlike(TEXT, IDLE, BARE, "", None), ("bare", 3))
        self.assertEqual(audit_unlike(TEXT, BARE, IDLE, "", "exchange 1\n"), ("bare", 4))
        right = self.RIGHT[:4]
        self.assertEqual(audit_unlike(*right, ""), ("bare", 4))
        self.assertEqual(audit_unlike(TEXT, right[2], right[1], "", None), ("bare", 3))
        self.assertEqual(audit_unlike(*right, "exchange 0\nput 1 0 0 back\n"), ("bare", 4))

    def test_same(self):
        self.assertEqual(audit_unlike(TEXT, IDLE, BARE, "exchange 1\nstrike 0\n", ""), ("same", 4))
        self.assertEqual(audit_unlike(TEXT, BARE, BARE, "", ""), ("same", 4))

    def test_bare_and_leftmost_told_anew(self):
        for way, other, _ in samples(343, 6):
            told = audit_unlike(*texts_of(way, other), "", "")
            if way != leftmost(way) or way != bare(way):
                self.assertEqual(told, ("bare", 3))
            elif other != bare(other):
                self.assertEqual(told, ("bare", 4))
            else:
                self.assertEqual(told, ("same", 4) if way == other else None)


class MergeTest(unittest.TestCase):
    LINES = ["word aa\n", "word aa\n0 0 on\n", "word aa\n1 0 on\n", "word aa\n1 0 on\n0 0 on\n"]

    def test_none_of_what_is_merged(self):
        seen = 0
        for base, line, other in samples(344, 10):
            told = merged(base, [line, other])
            if told[0] == "way":
                seen += 1
                self.assertIsNone(audit_merge(*texts_of(base, line, other, told[1])))
                self.assertIsNone(audit_merge(*texts_of(base, other, line, told[1])))
        self.assertGreater(seen, 15)

    def test_each_way_by_distances(self):
        def between(one, another, inner):
            return distance(one, inner) + distance(inner, another) == distance(one, another)
        rng = random.Random(349)
        seen = {}
        for base, line, other in samples(345, 12):
            ways = [base, line, other, middle(base, line, other), bare(base)]
            told = merged(base, [line, other])
            if told[0] == "way":
                ways += [told[1], put_behind(told[1], random_way(rng, base.book(), told[1].end(), 1))]
            for way in ways:
                answer = None
                if not between(base, way, line):
                    answer = ("away", 2)
                elif not between(base, way, other):
                    answer = ("away", 3)
                elif not between(line, other, way):
                    answer = ("away", 4)
                self.assertEqual(audit_merge(*texts_of(base, line, other, way)), answer)
                self.assertIs(answer is None, told[0] == "way" and alike(told[1], way))
                seen[answer] = seen.get(answer, 0) + 1
        self.assertEqual(set(seen), {None, ("away", 2), ("away", 3), ("away", 4)}, seen)

    def test_text(self):
        text_errors(self, audit_merge, [TWO_TEXT] + self.LINES, sorts_of(TWO, 4))

    def test_word(self):
        elsewhere = "word a\n"
        for which in (2, 3, 4):
            given = [TWO_TEXT] + self.LINES
            given[which:] = [elsewhere] * (5 - which)
            self.assertEqual(audit_merge(*given), ("word", which))
        self.assertEqual(audit_merge(TWO_TEXT, elsewhere, *self.LINES[1:]), ("word", 2))

    def test_away(self):
        base, line, other, way = self.LINES
        by_name = dict(zip(("book", "base", "line", "other", "way"), [TWO_TEXT] + self.LINES))
        self.assertIsNone(audit_merge(**by_name))
        self.assertEqual(audit_merge(TWO_TEXT, base, line, other, base), ("away", 2))
        self.assertEqual(audit_merge(TWO_TEXT, base, line, other, line), ("away", 3))
        self.assertEqual(audit_merge(TWO_TEXT, base, line, line, way), ("away", 4))


class OddsTest(unittest.TestCase):
    RIGHT = [TWO_TEXT, "word aa\n", "word aa\n0 0 on\n", "word aa\n0 1 on\n1 0 on\n", "word aa\n0 0 on\n", "word aa\n0 1 on\n"]

    def test_none_of_events_at_odds(self):
        seen = 0
        for base, line, other in samples(346, 20):
            told = merged(base, [line, other])
            if told[0] == "odds":
                changes = [bare(put_behind(turned_back(base), one)) for one in (line, other)]
                for i, j in at_odds(*changes):
                    seen += 1
                    first, second = events_told(changes[0])[i], events_told(changes[1])[j]
                    self.assertIsNone(audit_odds(*texts_of(base, line, other, first, second)))
        self.assertGreater(seen, 20)

    def test_each_answer_told_anew(self):
        seen = {}
        for base, line, other in samples(347, 8):
            changes = [bare(put_behind(turned_back(base), one)) for one in (line, other)]
            tried = [events(changes[0])[:2] + changes[:1], events(changes[1])[:2] + changes[1:]]
            for first in tried[0] + tried[1][:1]:
                for second in tried[1] + tried[0][:1]:
                    told = self.told_anew(changes, first, second)
                    self.assertEqual(audit_odds(*texts_of(base, line, other, first, second)), told)
                    seen[told] = seen.get(told, 0) + 1
        expected = {None, ("event", 4), ("event", 5), ("away", 4), ("away", 5), ("same", 5)}
        self.assertEqual(set(seen), expected, seen)

    def told_anew(self, changes, first, second):
        for which, event in ((4, first), (5, second)):
            if not any(key(event) == key(one) for one in events_told(bare(event))):
                return ("event", which)
        for which, event, change in ((4, first, changes[0]), (5, second, changes[1])):
            if not event_keys(event) <= event_keys(change):
                return ("away", which)
        mine, theirs = events_told(first), events_told(second)
        odds = [(i, j) for i, j in at_odds(first, second) if mine[i] == first and theirs[j] == second]
        return None if odds else ("same", 5)

    def test_text(self):
        text_errors(self, audit_odds, self.RIGHT, sorts_of(TWO, 5))

    def test_word(self):
        by_name = dict(zip(("book", "base", "line", "other", "first", "second"), self.RIGHT))
        self.assertIsNone(audit_odds(**by_name))
        for which in (2, 3, 4, 5):
            given = list(self.RIGHT)
            given[which:] = ["word a\n"] * (6 - which)
            self.assertEqual(audit_odds(*given), ("word", which))
        # Events are from base's end.
        moved = list(self.RIGHT)
        moved[1:4] = ["word aa\n1 1 on\n", "word aa\n1 1 on\n0 0 on\n", "word aa\n1 1 on\n0 1 on\n"]
        self.assertEqual(audit_odds(*moved), ("word", 4))
        moved[4:] = ["word ac\n0 0 on\n", "word aa\n0 1 on\n"]
        self.assertEqual(audit_odds(*moved), ("word", 5))
        moved[5] = "word ac\n0 1 on\n"
        self.assertIsNone(audit_odds(*moved))

    def test_event_away_and_same(self):
        given = list(self.RIGHT)
        for text in ("word aa\n", "word aa\n0 1 on\n1 0 on\n", "word aa\n0 0 on\n0 0 back\n"):
            self.assertEqual(audit_odds(*given[:4], text, "word aa\n"), ("event", 4))
            self.assertEqual(audit_odds(*given[:5], text), ("event", 5))
        self.assertEqual(audit_odds(*given[:4], "word aa\n1 0 on\n", "word aa\n1 1 on\n"), ("away", 4))
        self.assertEqual(audit_odds(*given[:5], "word aa\n1 1 on\n"), ("away", 5))
        self.assertEqual(audit_odds(*given[:5], "word aa\n1 0 on\n"), ("same", 5))
        self.assertEqual(audit_odds(*given[:3], given[2], given[4], given[4]), ("same", 5))
        # Ways that are not bare stand for their bare ones.
        idle = "word aa\n0 0 on\n1 0 on\n1 0 back\n"
        self.assertIsNone(audit_odds(*given[:4], idle, given[5]))


class MiddleTest(unittest.TestCase):
    RIGHT = [TWO_TEXT, "word aa\n0 0 on\n", "word aa\n0 1 on\n1 0 on\n", "word aa\n0 0 on\n1 0 on\n", "word aa\n0 0 on\n1 0 on\n"]

    def test_just_of_the_middle(self):
        def between(one, another, inner):
            return distance(one, inner) + distance(inner, another) == distance(one, another)
        seen = {}
        for three in samples(348, 10):
            told = middle(*three)
            for inner in (told, *three, bare(three[0])):
                answer = None
                for first, second in ((3, 2), (3, 1), (2, 1)):
                    if not between(three[first - 1], three[second - 1], inner):
                        answer = ("away", second, first)
                self.assertEqual(audit_middle(*texts_of(*three, inner)), answer)
                self.assertIs(answer is None, alike(told, inner))
                seen[answer] = seen.get(answer, 0) + 1
        self.assertEqual(set(seen), {None, ("away", 1, 2), ("away", 1, 3), ("away", 2, 3)})

    def test_text(self):
        text_errors(self, audit_middle, self.RIGHT, sorts_of(TWO, 4))

    def test_word(self):
        by_name = dict(zip(("book", "way", "other", "third", "inner"), self.RIGHT))
        self.assertIsNone(audit_middle(**by_name))
        for which in (2, 3, 4):
            given = list(self.RIGHT)
            given[which:] = ["word a\n"] * (5 - which)
            self.assertEqual(audit_middle(*given), ("word", which))

    def test_no_other_book_is_taken(self):
        self.assertEqual(raised(audit_middle, *self.RIGHT), None)
        self.assertEqual(audit_middle(book_text(TWINS), *self.RIGHT[1:]), None)
        self.assertEqual(audit_middle(book_text(DOUBLES), *self.RIGHT[1:]), ("text", 1, 8))


if __name__ == "__main__":
    unittest.main()
