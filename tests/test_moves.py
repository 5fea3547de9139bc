"""[29], [30]: moves, those that lead from way to way, and what is wrong in such."""

import random
import unittest

from tests.helpers import DOUBLES, HALVES, MIXED, OTHER_KINDS, RING, SWAPS, TWINS, anything, as_lists, as_tuples
from tests.helpers import drawn_ways, raised, sample_ways, way_told_back, word_after, ways_from
from tests.oracles import bare_told
from tests.test_idles import idle_ways
from waysback.books import Book
from waysback.errors import BadMove, BadOther, BadWay
from waysback.exchanges import exchanged, is_apart
from waysback.goings import steps_at
from waysback.idles import bare
from waysback.likeness import alike
from waysback.moves import moved, moves, moves_wrong
from waysback.ways import Way

SAMPLE = Way(DOUBLES, "xx", [(0, 0, "on"), (2, 0, "on"), (2, 0, "back"), (0, 0, "on")])


def all_moves(way):
    """All moves of way with the steps to which they lead, told anew here."""
    steps, words, told = way.steps(), way.words(), []
    for index in range(len(steps) - 1):
        if is_apart(way, index):
            told.append((("exchange", index), exchanged(way, index).steps()))
        place, rule, turn = steps[index]
        if steps[index + 1] == (place, rule, "back" if turn == "on" else "on"):
            told.append((("strike", index), steps[:index] + steps[index + 2:]))
    for index in range(len(words)):
        for step in steps_at(way.book(), words[index]):
            one = Way(way.book(), words[index], [step])
            told.append((("put", index, step), steps[:index] + [step] + way_told_back(one) + steps[index:]))
    return told


def no_moves(way):
    """Objects that are no moves of way."""
    many = len(way.steps())
    right = [move for move, _ in all_moves(way)]
    told = list(anything())
    for kind in ("exchange", "strike"):
        told += [(kind, index) for index in range(many + 2) if (kind, index) not in right]
        told += [(kind, -1), (kind, None), (kind, True), (kind, "0"), (kind,), (kind, [0]), (kind, 10 ** 30)]
        told += [move + (None,) for move in right if move[0] == kind] + [kind]
    for index, word in enumerate(way.words()):
        step = steps_at(way.book(), word)[0]
        wrong = [(len(word), 0, "on"), (0, 99, "on"), (0, 0, "off"), (0, 0), None, "on", (True, 0, "on")]
        told += [("put", index, thing) for thing in wrong] + [("put", index), ("put", index, step, 0)]
    told += [("put", many + 1, step), ("put", -1, step), ("put", None, step), ("put", False, step), ("Put", 0, step)]
    told += [(kind, 0) for kind in OTHER_KINDS] + [(kind, 0, step) for kind in OTHER_KINDS] + [("undo", 0)]
    return told


class MovedTest(unittest.TestCase):
    def test_each_kind_of_move_wherever_it_can_be_done(self):
        kinds = set()
        for way in sample_ways(70, 12, 6) + idle_ways(70):
            for move, steps in all_moves(way):
                told = moved(way=way, move=move)
                self.assertEqual((told.book(), told.word(), told.steps()), (way.book(), way.word(), steps))
                self.assertEqual(moved(way, as_lists(move)), told)
                self.assertIs(alike(way, told), True)
                kinds.add(move[0])
        self.assertEqual(kinds, {"exchange", "strike", "put"})

    def test_put_at_the_end(self):
        way = Way(HALVES, "xx", [(0, 0, "on")])
        told = moved(way, ("put", 1, (0, 0, "back")))
        self.assertEqual(told.steps(), [(0, 0, "on"), (0, 0, "back"), (0, 0, "on")])
        self.assertEqual(moved(Way(HALVES, "x", []), ("put", 0, (0, 0, "back"))).end(), "x")

    def test_bad_move_of_every_object_that_is_none(self):
        for way in (SAMPLE, Way(TWINS, "aa", [(0, 0, "on"), (0, 1, "back"), (1, 1, "on")]), Way(MIXED, "ab", [])):
            for thing in no_moves(way):
                error = raised(moved, way, thing)
                self.assertIs(type(error), BadMove, repr(thing))
                self.assertIs(error.move, thing)

    def test_bad_way_ahead_of_bad_move(self):
        for thing in anything():
            if not isinstance(thing, Way):
                error = raised(moved, thing, None)
                self.assertIs(type(error), BadWay)
                self.assertIs(error.thing, thing)


class MovesTest(unittest.TestCase):
    def follow(self, way, told):
        for move in told:
            way = Way(way.book(), way.word(), dict_of_moves(way)[as_tuples(move)])
        return way

    def test_the_example(self):
        way = Way(HALVES, "xx", [(0, 0, "back"), (2, 0, "back"), (0, 0, "on")])
        self.assertEqual(moves(way, Way(HALVES, "xx", [(1, 0, "back")])), [("exchange", 1), ("strike", 0)])

    def test_they_lead_to_just_the_other_way(self):
        for way in idle_ways(71) + sample_ways(71, 8):
            other = bare_told(way)
            for first, second in ((way, other), (other, way)):
                self.assertEqual(self.follow(first, moves(way=first, other=second)), second)
            self.assertEqual(moves(way, way), [])
            rng = random.Random(len(way.steps()))
            for _ in range(4):
                _, steps = rng.choice(all_moves(other) or [(None, other.steps())])
                other = Way(way.book(), way.word(), steps)
            self.assertEqual(self.follow(way, moves(way, other)), other)
            self.assertIsNone(moves_wrong(way, other, moves(way, other)))

    def test_none_just_if_not_alike(self):
        rng = random.Random(72)
        for book, word in ((HALVES, "xx"), (DOUBLES, "x"), (TWINS, "a"), (RING, "ab"), (SWAPS, "ab")):
            ways = ways_from(book, word, 3)[-20:] + drawn_ways(rng, book, word, 10, 5)
            for way in ways:
                for other in ways:
                    told = moves(way, other)
                    self.assertIs(told is None, bare_told(way) != bare_told(other))
                    if told is not None:
                        self.assertEqual(self.follow(way, told), other)

    def test_the_same_moves_each_time_in_new_lists(self):
        for way in idle_ways(73, 12):
            first = moves(way, bare(way))
            kept = list(first)
            first.append(None)
            self.assertEqual(moves(Way(Book(way.book().rules()), way.word(), as_lists(way.steps())), bare(way)), kept)
            self.assertTrue(all(type(move) is tuple for move in kept))


def dict_of_moves(way):
    return dict(all_moves(way))


class MovesWrongTest(unittest.TestCase):
    def test_none_for_moves_that_lead_to_the_other_way(self):
        put = [("put", 4, (0, 0, "on")), ("exchange", 0), ("exchange", 0), ("strike", 4)]
        for thing in ([], put, as_lists(put), as_tuples(put), put + put):
            self.assertIsNone(moves_wrong(way=SAMPLE, other=SAMPLE, thing=thing))

    def test_form(self):
        for thing in OTHER_KINDS + ["", "ab", SAMPLE, HALVES, {0: ("strike", 0)}]:
            self.assertEqual(moves_wrong(SAMPLE, SAMPLE, thing), ("form",))

    def test_the_first_wrong_move(self):
        for thing in no_moves(SAMPLE):
            self.assertEqual(moves_wrong(SAMPLE, SAMPLE, [thing]), ("move", 0), repr(thing))
            self.assertEqual(moves_wrong(SAMPLE, SAMPLE, [("exchange", 0), ("exchange", 0), thing, None]), ("move", 2))
        # What was a move at first is none any more, and the other way round.
        self.assertEqual(moves_wrong(SAMPLE, SAMPLE, [("strike", 1), ("strike", 1)]), ("move", 1))
        self.assertEqual(moves_wrong(SAMPLE, SAMPLE, [("strike", 1), ("put", 3, (0, 0, "on"))]), ("move", 1))
        self.assertEqual(moves_wrong(SAMPLE, SAMPLE, [("strike", 1), ("put", 2, (0, 0, "on"))]), ("end",))
        self.assertEqual(moves_wrong(SAMPLE, SAMPLE, [("put", 2, (3, 0, "on")), ("put", 3, (4, 0, "on"))]), ("end",))

    def test_the_end(self):
        self.assertEqual(moves_wrong(SAMPLE, SAMPLE, [("strike", 1)]), ("end",))
        other = Way(DOUBLES, "xx", [(0, 0, "on"), (0, 0, "on")])
        self.assertIsNone(moves_wrong(SAMPLE, other, [("strike", 1)]))
        self.assertEqual(moves_wrong(SAMPLE, other, []), ("end",))
        self.assertEqual(moves_wrong(SAMPLE, other, [("strike", 1), None]), ("move", 1))
        # Of one picture, but not equal.
        apart = Way(DOUBLES, "xx", [(0, 0, "on"), (2, 0, "on")])
        self.assertEqual(moves_wrong(apart, exchanged(apart, 0), []), ("end",))
        self.assertIsNone(moves_wrong(apart, exchanged(apart, 0), [("exchange", 0)]))

    def test_words_along_are_kept_right_by_each_move(self):
        rng = random.Random(74)
        for way in [way for way in idle_ways(75, 30) if all_moves(way)]:
            told, now = [], way
            for _ in range(12):
                move, steps = rng.choice(all_moves(now))
                told.append(move)
                now = Way(way.book(), way.word(), steps)
            self.assertIsNone(moves_wrong(way, now, told))
            self.assertEqual(moves_wrong(way, now, told + [("put", len(now.steps()), (99, 0, "on"))]), ("move", 12))
            self.assertEqual(now.words()[-1], way.end())
            for step in steps_at(way.book(), now.words()[0])[:2]:
                self.assertIn(("put", 0, step), dict_of_moves(now))
                self.assertEqual(word_after(way.book(), way.word(), step), moved(now, ("put", 0, step)).words()[1])


class ErrorsTest(unittest.TestCase):
    def test_bad_way_then_bad_other(self):
        for thing in anything():
            for call, more in ((moves, ()), (moves_wrong, (None,))):
                if not isinstance(thing, Way):
                    error = raised(call, thing, None, *more)
                    self.assertIs(type(error), BadWay)
                    self.assertIs(error.thing, thing)
                if not isinstance(thing, Way) or thing.word() != "xx" or thing.book() != DOUBLES:
                    error = raised(call, SAMPLE, thing, *more)
                    self.assertIs(type(error), BadOther)
                    self.assertIs(error.thing, thing)


if __name__ == "__main__":
    unittest.main()
