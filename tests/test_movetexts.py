"""[76]: texts of moves."""

import random
import unittest

from tests.helpers import BOOKS, DOUBLES, HALVES, OTHER_KINDS, TWINS, anything, as_lists, beginnings, fault_by_beginnings
from tests.helpers import raised, sample_ways
from waysback.errors import BadMoves, BadText, BadWay
from waysback.goings import steps_at
from waysback.idles import bare
from waysback.moves import moved, moves, moves_wrong
from waysback.movetexts import moves_fault, moves_go_on, moves_text, read_moves
from waysback.unlikes import unlike_paper
from waysback.ways import Way

WAY = Way(DOUBLES, "xx", [(0, 0, "on"), (2, 0, "on"), (2, 0, "back")])


def all_moves(way):
    """All moves of way, by trying."""
    told = []
    for index in range(len(way.steps()) - 1):
        told += [move for move in (("exchange", index), ("strike", index)) if raised(moved, way, move) is None]
    for index, word in enumerate(way.words()):
        told += [("put", index, step) for step in steps_at(way.book(), word)]
    return told


def line_told(move):
    if move[0] == "put":
        return "put %d %d %d %s\n" % ((move[1],) + move[2])
    return "%s %d\n" % move


def drawn_moves(rng, way, many):
    """So many moves one behind another, and the way behind them."""
    told = []
    for _ in range(many):
        choices = all_moves(way)
        if not choices:
            break
        told.append(rng.choice(choices))
        way = moved(way, told[-1])
    return told, way


def all_texts(way, many):
    """The texts of all lists of at most so many moves of way."""
    lines = [("", way)]
    told = [""]
    for _ in range(many):
        lines = [(text + line_told(move), moved(at, move)) for text, at in lines for move in all_moves(at)]
        told += [text for text, _ in lines]
    return told


class MovesTextTest(unittest.TestCase):
    def test_a_line_for_each_move(self):
        told = moves_text(way=WAY, moves=[("put", 1, (2, 0, "on")), ("exchange", 0), ("strike", 3)])
        self.assertEqual(told, "put 1 2 0 on\nexchange 0\nstrike 3\n")
        self.assertEqual(moves_text(WAY, []), "")
        rng = random.Random(320)
        for way in sample_ways(321, 8, 5):
            moved_by, _ = drawn_moves(rng, way, 6)
            self.assertEqual(moves_text(way, moved_by), "".join(map(line_told, moved_by)))
            self.assertEqual(moves_text(way, as_lists(moved_by)), moves_text(way, tuple(moved_by)))

    def test_bad_moves(self):
        wrong = OTHER_KINDS + ["", "exchange", (), ("exchange",), ("exchange", 1), ("strike", 0), ("strike", True), ("put", 1),
                               ("put", 4, (0, 0, "on")), ("put", 1, (3, 0, "on")), ("put", 0, None), ("exchange", 0, 0)]
        for thing in wrong:
            error = raised(moves_text, WAY, [thing])
            self.assertIs(type(error), BadMoves, repr(thing))
            self.assertEqual(error.index, 0)
            # Behind two moves that change nothing it is as wrong as ahead of them.
            error = raised(moves_text, WAY, [("put", 3, (0, 0, "on")), ("strike", 3), thing, None])
            self.assertEqual(error.index, 2)
        for thing in OTHER_KINDS + ["", "ab"]:
            error = raised(moves_text, WAY, thing)
            self.assertIs(type(error), BadMoves, repr(thing))
            self.assertEqual(error.index, 0)
        # Each stands where it does: struck once it can't be struck again.
        self.assertEqual(raised(moves_text, WAY, [("strike", 1), ("strike", 1)]).index, 1)

    def test_bad_way_first(self):
        for call in (moves_text, read_moves, moves_fault, moves_go_on):
            for thing in anything():
                if not isinstance(thing, Way):
                    error = raised(call, thing, None)
                    self.assertIs(type(error), BadWay)
                    self.assertIs(error.thing, thing)


class ReadMovesTest(unittest.TestCase):
    def test_there_and_back(self):
        rng = random.Random(322)
        for way in sample_ways(323):
            told, _ = drawn_moves(rng, way, 8)
            text = moves_text(way, told)
            self.assertEqual(read_moves(way=way, text=text), told)
            self.assertIsNone(moves_fault(way, text))

    def test_moves_that_lead_there(self):
        for way in sample_ways(324):
            told = moves(way, bare(way))
            self.assertEqual(read_moves(way, moves_text(way, told)), told)
            other = Way(way.book(), way.word(), way.steps()[:-1])
            papers = unlike_paper(way, other)
            for begun, paper in zip((way, other), papers or ()):
                self.assertEqual(read_moves(begun, moves_text(begun, paper)), paper)

    def test_kinds_of_values(self):
        told = read_moves(WAY, "put 1 2 0 on\nexchange 0\n")
        self.assertEqual(told, [("put", 1, (2, 0, "on")), ("exchange", 0)])
        self.assertEqual([type(thing) for thing in (told, told[0], told[0][2])], [list, tuple, tuple])

    def test_bad_text(self):
        for thing in anything() + ["exchange 0", "strike 0\n", "exchange 0\nx"]:
            error = raised(read_moves, WAY, thing)
            fault = moves_fault(WAY, thing)
            if fault is None:
                self.assertIsNone(error)
            else:
                self.assertIs(type(error), BadText)
                self.assertEqual(error.index, fault)


class FaultTest(unittest.TestCase):
    def test_by_all_beginnings_of_short_texts(self):
        ways = [Way(TWINS, "ab", [(0, 0, "on"), (0, 0, "back")]), Way(HALVES, "x", [(0, 0, "back"), (0, 0, "back")]),
                Way(TWINS, "", []), Way(DOUBLES, "y", []), Way(TWINS, "aa", [(0, 0, "on"), (1, 0, "on")])]
        rng = random.Random(325)
        for way in ways:
            texts = all_texts(way, 2)
            begun, whole = beginnings(all_texts(way, 3) if len(texts) < 300 else texts), set(texts)
            tried = set(rng.sample(sorted(beginnings(texts)), min(300, len(beginnings(texts)))))
            for text in sorted(tried):
                for other in (text, text[:-1], text + "x", text + "0", text[:-1] + "1", text[:-2] + "9\n", text + " "):
                    if other.count("\n") < 2:
                        self.assertEqual(moves_fault(way=way, text=other), fault_by_beginnings(other, begun, whole), repr(other))

    def test_samples(self):
        for text, index in (
            ("", None), ("e", 1), ("exchange", 8), ("exchange ", 9), ("exchange 0", 10), ("exchange 0\n", None),
            ("exchange 1\n", 9), ("exchange 00\n", 10), ("strike 0\n", 7), ("strike 1\n", None), ("strike 1\nstrike", 9),
            ("put 3 2 0 back\n", 10), ("put 3 1 0 back\n", None), ("put 0 0 0 on\n", None), ("put 4", 4), ("put 0 2", 6),
            ("put 0 0 1", 8), ("put 0 0 0 off\n", 11), ("take 0\n", 0), (" put", 0), ("put  0", 4), ("put 0 0 0 on ", 12),
            ("put 0 " + "9" * 5000, 6), ("exchange " + "0" * 5000, 10), ("exchange 0\n\n", 11), ("exchange -0", 9),
        ):
            self.assertEqual(moves_fault(WAY, text), index, repr(text))

    def test_any_object(self):
        for thing in anything():
            if not isinstance(thing, str):
                self.assertEqual(moves_fault(WAY, thing), -1)
                self.assertIsNone(moves_go_on(WAY, thing))

    def test_cut_changed_and_exchanged_lines(self):
        rng = random.Random(326)
        for way in sample_ways(327, 5, 6):
            told, _ = drawn_moves(rng, way, 5)
            text = moves_text(way, told)
            for end in range(len(text) + 1):
                fault = moves_fault(way, text[:end])
                self.assertIn(fault, (None, end))
                self.assertIs(fault is None, text[:end].endswith("\n") or end == 0)
            lines = text.splitlines(keepends=True)
            rng.shuffle(lines)
            mixed = "".join(lines)
            right = moves_wrong(way, way, [move for move in (moves_of_lines(lines))])
            self.assertIs(moves_fault(way, mixed) is None, right in (None, ("end",)))


def moves_of_lines(lines):
    """The moves that lines tell, whether or not they can be made."""
    for line in lines:
        kind, index, *step = line.split()
        if step:
            yield kind, int(index), (int(step[0]), int(step[1]), step[2])
        else:
            yield kind, int(index)


class GoesOnTest(unittest.TestCase):
    def test_just_where_no_sign_is_wrong(self):
        rng = random.Random(328)
        for way in sample_ways(329, 5, 6):
            told, _ = drawn_moves(rng, way, 4)
            text = moves_text(way, told)
            for end in range(len(text) + 1):
                for other in (text[:end], text[:end] + "x", text[:end] + "1"):
                    fault = moves_fault(way, other)
                    longer = moves_go_on(way=way, text=other)
                    if fault is None or fault == len(other):
                        self.assertTrue(longer.startswith(other))
                        self.assertIsNone(moves_fault(way, longer))
                        self.assertEqual(moves_go_on(way, other), longer)
                    else:
                        self.assertIsNone(longer)

    def test_no_moves_at_all(self):
        for book in BOOKS:
            none = Way(book, "", [])
            self.assertEqual((moves_fault(none, ""), moves_go_on(none, ""), moves_text(none, [])), (None, "", ""))
            self.assertEqual((moves_fault(none, "p"), moves_go_on(none, "p")), (0, None))


if __name__ == "__main__":
    unittest.main()
