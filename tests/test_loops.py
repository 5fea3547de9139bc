"""[66] to [68]: loops of finite lots, spellings, and the roads across squares."""

import random
import unittest

from tests.helpers import HALVES, NO_RULES, OTHER_KINDS, RING, TWINS, anything, as_lists, lists_within, raised
from tests.helpers import random_round, way_told_back, word_after
from tests.oracles import bare_told
from tests.test_lots import TWO, finite_lots, lot_told
from waysback.books import Book
from waysback.errors import BadIndex, BadMost, BadSpelling, BadWay, NotRound, TooFar
from waysback.goings import put_behind, steps_at, turned_back
from waysback.idles import bare
from waysback.loops import loop_round, loops, round_of, spelled, square_roads
from waysback.lots import squares
from waysback.rounds import no_steps
from waysback.ways import Way


def tree_told(book, word):
    """The dict of the steps of the tree way of each word of the lot, and the lot's steps in the tree."""
    words = lot_told(book, word, 100)
    tree, inside = {word: []}, set()
    for behind in words[1:]:
        pairs = [(at, step) for at in words for step in steps_at(book, at) if word_after(book, at, step) == behind]
        at, step = pairs[0]
        tree[behind] = tree[at] + [step]
        inside.add(lot_step(book, at, step))
    return tree, inside


def lot_step(book, word, step):
    place, rule, turn = step
    return (word if turn == "on" else word_after(book, word, step), place, rule)


def loops_told(book, word):
    _, inside = tree_told(book, word)
    steps = [(at, step[0], step[1]) for at in lot_told(book, word, 100) for step in steps_at(book, at) if step[2] == "on"]
    return [step for step in steps if step not in inside]


def short_told(spelling):
    """A spelling without neighbours of one loop and other turns, struck from the right."""
    told = list(spelling)
    at = len(told) - 2
    while at >= 0:
        if told[at][0] == told[at + 1][0] and told[at][1] != told[at + 1][1]:
            del told[at:at + 2]
            at = len(told) - 1
        at -= 1
    return told


def spelled_told(way):
    rows = loops_told(way.book(), way.word())
    told = []
    for word, step in zip(way.words(), way.steps()):
        one = lot_step(way.book(), word, step)
        if one in rows:
            told.append((rows.index(one), step[2]))
    return short_told(told)


def some_lots(seed, count=40):
    return finite_lots(seed, count, 16) + [(TWO, "aa"), (RING, "ab"), (TWINS, "aa"), (NO_RULES, "ab"), (TWO, "")]


class LoopsTest(unittest.TestCase):
    def test_in_their_order(self):
        for book, word in some_lots(260):
            self.assertEqual(loops(book=book, word=word, most=16), loops_told(book, word))

    def test_the_example(self):
        told = [("ab", 1, 1), ("ba", 0, 1), ("ba", 1, 0), ("bb", 0, 1), ("bb", 1, 1)]
        self.assertEqual(loops(TWO, "aa", 4), told)
        self.assertEqual(loops(RING, "a", 3), [("b", 0, 1)])
        self.assertEqual(loops(Book([("a", "a")]), "aa", 1), [("aa", 0, 0), ("aa", 1, 0)])

    def test_round_of_each_loop(self):
        for book, word in some_lots(261):
            tree, _ = tree_told(book, word)
            for number, (at, place, rule) in enumerate(loops(book, word, 16)):
                told = loop_round(book=book, word=word, number=number, most=16)
                behind = word_after(book, at, (place, rule, "on"))
                back = way_told_back(Way(book, word, tree[behind]))
                self.assertEqual(told, Way(book, word, tree[at] + [(place, rule, "on")] + back))
                self.assertEqual(told.end(), word)

    def test_bad_index(self):
        for thing in OTHER_KINDS + ["", "0", [], (0,), 5, 6, -1]:
            if not isinstance(thing, int) or isinstance(thing, bool) or thing not in range(5):
                error = raised(loop_round, TWO, "aa", thing, 4)
                self.assertIs(type(error), BadIndex, repr(thing))
                self.assertIs(error.thing, thing)
        self.assertIs(type(raised(loop_round, NO_RULES, "a", 0, 1)), BadIndex)


class SpelledTest(unittest.TestCase):
    def test_the_loops_along_which_a_round_goes(self):
        rng = random.Random(262)
        many = 0
        for book, word in some_lots(263):
            for count in range(0, 10, 3):
                way = random_round(rng, book, word, count)
                told = spelled(way=way, most=16)
                self.assertEqual(told, spelled_told(way))
                many += len(told)
                self.assertEqual(spelled(put_behind(way, turned_back(way)), 16), [])
                self.assertEqual(spelled(turned_back(way), 16),
                                 [(number, "on" if turn == "back" else "back") for number, turn in reversed(told)])
        self.assertGreater(many, 60)

    def test_the_round_of_a_loop_by_it_alone(self):
        for book, word in some_lots(264):
            for number in range(len(loops(book, word, 16))):
                self.assertEqual(spelled(loop_round(book, word, number, 16), 16), [(number, "on")])

    def test_errors_in_their_order(self):
        for thing in anything():
            if not isinstance(thing, Way):
                error = raised(spelled, thing, 0)
                self.assertIs(type(error), BadWay)
                self.assertIs(error.thing, thing)
        error = raised(spelled, Way(RING, "a", [(0, 0, "on")]), 0)
        self.assertIs(type(error), NotRound)
        self.assertEqual(error.end, "b")
        for thing in OTHER_KINDS + ["1", [1]]:
            if not isinstance(thing, int) or isinstance(thing, bool) or thing < 1:
                error = raised(spelled, no_steps(RING, "a"), thing)
                self.assertIs(type(error), BadMost)
                self.assertIs(error.thing, thing)
        self.assertEqual(raised(spelled, no_steps(RING, "a"), 2).most, 2)
        self.assertIs(type(raised(spelled, no_steps(HALVES, "x"), 200)), TooFar)


class RoundOfTest(unittest.TestCase):
    def test_of_spelled_the_bare_way(self):
        rng = random.Random(265)
        for book, word in some_lots(266):
            for count in range(0, 10, 3):
                way = random_round(rng, book, word, count)
                self.assertEqual(round_of(book=book, word=word, spelling=spelled(way, 16), most=16), bare(way))

    def test_short_spellings_and_others(self):
        rng = random.Random(267)
        for book, word in some_lots(268):
            many = len(loops(book, word, 16))
            for length in range(6 if many else 0):
                spelling = [(rng.randrange(many), rng.choice(["on", "back"])) for _ in range(length)]
                if length > 2:
                    spelling[1:1] = [(0, "on"), (0, "back")]
                steps = []
                for number, turn in spelling:
                    way = loop_round(book, word, number, 16)
                    steps += way.steps() if turn == "on" else way_told_back(way)
                told = round_of(book, word, spelling, 16)
                self.assertEqual(told, bare_told(Way(book, word, steps)))
                self.assertEqual(round_of(book, word, as_lists(spelling), 16), told)
                self.assertEqual(round_of(book, word, short_told(spelling), 16), told)
        self.assertEqual(round_of(TWO, "aa", [], 4), no_steps(TWO, "aa"))

    def test_bad_spelling(self):
        right = [(0, "on"), (4, "back")]
        wrong = OTHER_KINDS + [(5, "on"), (0, "off"), (0,), (0, "on", 1), (True, "on"), ("0", "on"), (-1, "on"), (0, None), [], "ab"]
        for thing in wrong:
            for at in range(3):
                error = raised(round_of, TWO, "aa", right[:at] + [thing, None] + right[at:], 4)
                self.assertIs(type(error), BadSpelling, repr(thing))
                self.assertEqual(error.index, at)
        for thing in OTHER_KINDS + ["", "ab"]:
            error = raised(round_of, TWO, "aa", thing, 4)
            self.assertIs(type(error), BadSpelling, repr(thing))
            self.assertEqual(error.index, 0)
        self.assertEqual(raised(round_of, NO_RULES, "a", [(0, "on")], 1).index, 0)


class SquareRoadsTest(unittest.TestCase):
    def test_the_example(self):
        told = [([(2, "on")], []), ([(4, "on")], [(0, "on")]), ([(1, "on")], [(2, "on"), (3, "on")]),
                ([(3, "on"), (0, "on")], [(4, "on"), (1, "on")])]
        self.assertEqual(square_roads(TWO, "aa", 4), told)

    def test_both_roads_across_each_square(self):
        for book, word in some_lots(269, 60):
            tree, _ = tree_told(book, word)
            told = []
            for at, place, rule, second, other in squares(book, word, 16):
                left, right = book.rules()[rule]
                first = [(place, rule, "on"), (second - len(left) + len(right), other, "on")]
                aside = [(second, other, "on"), (place, rule, "on")]
                ends = [Way(book, at, steps).end() for steps in (first, aside)]
                self.assertEqual(ends[0], ends[1])
                back = way_told_back(Way(book, word, tree[ends[0]]))
                told.append(tuple(spelled_told(Way(book, word, tree[at] + steps + back)) for steps in (first, aside)))
            self.assertEqual(square_roads(book=book, word=word, most=16), told)

    def test_both_roads_spell_alike_rounds(self):
        for book, word in some_lots(270):
            for first, second in square_roads(book, word, 16):
                self.assertEqual(round_of(book, word, first, 16), round_of(book, word, second, 16))

    def test_told_lists_are_new(self):
        found = lists_within(square_roads(TWO, "aa", 4))
        self.assertEqual(len(found), 9)
        self.assertEqual(len({id(thing) for thing in found}), 9)


if __name__ == "__main__":
    unittest.main()
