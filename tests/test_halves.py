"""[72] to [75]: the rule of halves, its trees, its maps."""

import random
import unittest
from fractions import Fraction

from tests.helpers import DOUBLES, HALVES, OTHER_KINDS, anything, as_lists, raised, random_way
from tests.oracles import bare_told
from tests.test_rounds import A
from waysback.books import Book
from waysback.errors import BadPoint, BadTable, BadWay
from waysback.goings import put_behind, turned_back
from waysback.halves import halves, halving, map_value, trees, way_of_halves
from waysback.idles import bare
from waysback.likeness import alike, fewest
from waysback.rounds import no_steps
from waysback.ways import Way

ONES = [((0, ""), (0, "0")), ((1, ""), (0, "1"))]


def number_at(place):
    """The left end of a place."""
    letter, row = place
    return letter + sum((Fraction(int(sign), 2 ** at) for at, sign in enumerate(row, 1)), Fraction(0))


def number_mapped(way, number):
    """Where the map of way, step by step, leads a number."""
    for place, _, turn in way.steps():
        if turn == "on":
            if number >= place + 2:
                number -= 1
            elif number >= place:
                number = place + (number - place) / 2
        elif number >= place + 1:
            number += 1
        elif number >= place:
            number = place + (number - place) * 2
    return number


def leaves_of(tree, row=""):
    """The rows of the leaves of a tree."""
    if tree == ():
        return [row]
    return leaves_of(tree[0], row + "0") + leaves_of(tree[1], row + "1")


def places_of(forest):
    return [(letter, row) for letter, tree in enumerate(forest) for row in leaves_of(tree)]


def some_ways(seed, count=150):
    """Ways by the rule of halves, some with pairs put in, some deep."""
    rng = random.Random(seed)
    told = [no_steps(HALVES, ""), no_steps(HALVES, "xxx"), A]
    for number in range(count):
        way = random_way(rng, HALVES, "x" * rng.randrange(6), rng.randrange(4 * (1 + number % 10)), 14)
        if number % 3 == 0:
            aside = random_way(rng, HALVES, way.end(), 6, 14)
            way = put_behind(put_behind(way, aside), turned_back(aside))
        told.append(way)
    return told


class TreesTest(unittest.TestCase):
    def test_halving(self):
        self.assertEqual(halving(), Book([("xx", "x")]))

    def test_the_example(self):
        self.assertEqual(trees(way=A), ([((), ((), ()))], [(((), ()), ())]))
        self.assertEqual(trees(no_steps(HALVES, "xx")), ([(), ()], [(), ()]))
        self.assertEqual(trees(Way(HALVES, "xx", [(0, 0, "on")])), ([(), ()], [((), ())]))
        self.assertEqual(trees(no_steps(HALVES, "")), ([], []))

    def test_split_and_put_together(self):
        for way in some_ways(300):
            upper, lower = trees(way)
            self.assertEqual((len(upper), len(lower)), (len(way.word()), len(way.end())))
            self.assertEqual(len(places_of(upper)), len(places_of(lower)))
            self.assertEqual(trees(bare(way)), (upper, lower))
            # No two leaves next to one another are a pair in both.
            pairs = list(zip(places_of(upper), places_of(lower)))
            for first, second in zip(pairs, pairs[1:]):
                both = [
                    one[0] == other[0] and one[1][:-1] + "0" == one[1] and one[1][:-1] + "1" == other[1]
                    for one, other in zip(first, second)
                ]
                self.assertNotEqual(both, [True, True])

    def test_by_trees_alone_a_way_is_known(self):
        ways = some_ways(301, 80)
        for way in ways:
            for other in ways:
                if way.word() == other.word():
                    self.assertIs(trees(way) == trees(other), alike(way, other))

    def test_tuples_within_lists(self):
        told = trees(A)
        self.assertEqual([type(thing) for thing in (told, *told, told[0][0])], [tuple, list, list, tuple])

    def test_deep_trees(self):
        way = Way(HALVES, "x", [(at, 0, "back") for at in range(60)])
        upper, lower = trees(way)
        self.assertEqual(lower, [()] * 61)
        tree, depth = upper[0], 0
        while tree:
            self.assertEqual(tree[0], ())
            tree, depth = tree[1], depth + 1
        self.assertEqual(depth, 60)
        self.assertEqual(trees(turned_back(way)), (lower, upper))

    def test_bad_way(self):
        wrong = [Way(HALVES, "xa", []), Way(HALVES, "ab", []), Way(DOUBLES, "xx", []), Way(Book([("xx", "x")] * 2), "x", []),
                 Way(Book([("yy", "y")]), "y", []), no_steps(Book([]), "x"), no_steps(HALVES, "y"), HALVES]
        for call, more in ((trees, ()), (halves, ()), (map_value, (None,))):
            for thing in anything() + wrong:
                if not isinstance(thing, Way) or thing in wrong or thing.book() != HALVES:
                    error = raised(call, thing, *more)
                    self.assertIs(type(error), BadWay)
                    self.assertIs(error.thing, thing)
            self.assertIsNone(raised(call, Way(Book([["xx", "x"]]), "x", []), *((0, ""),) * len(more)))


class HalvesTest(unittest.TestCase):
    def test_where_leaves_stand_in_both(self):
        for way in some_ways(302):
            upper, lower = trees(way)
            self.assertEqual(halves(way=way), list(zip(places_of(upper), places_of(lower))))
            self.assertEqual(fewest(way), 2 * len(halves(way)) - len(way.word()) - len(way.end()))

    def test_the_least_table(self):
        for way in some_ways(303):
            told = halves(way)
            for first, second in zip(told, told[1:]):
                merged = [
                    one[0] == other[0] and one[1] != "" and one[1][:-1] == other[1][:-1] and one[1] < other[1]
                    for one, other in zip(first, second)
                ]
                self.assertNotEqual(merged, [True, True])

    def test_the_example(self):
        self.assertEqual(halves(A), [((0, "0"), (0, "00")), ((0, "10"), (0, "01")), ((0, "11"), (0, "1"))])
        self.assertEqual(halves(no_steps(HALVES, "xx")), [((0, ""), (0, "")), ((1, ""), (1, ""))])
        self.assertEqual(halves(no_steps(HALVES, "")), [])

    def test_one_map_just_for_alike_ways(self):
        ways = some_ways(304, 80)
        for way in ways:
            for other in ways:
                if way.word() == other.word() and way.end() == other.end():
                    self.assertIs(halves(way) == halves(other), alike(way, other))


class MapValueTest(unittest.TestCase):
    def test_by_the_steps_maps(self):
        rng = random.Random(305)
        for way in some_ways(306):
            for letter in range(len(way.word())):
                for length in (0, 1, 2, 5, 12):
                    point = (letter, "".join(rng.choice("01") for _ in range(length)))
                    told = map_value(way=way, point=point)
                    self.assertEqual(number_at(told), number_mapped(way, number_at(point)))
                    self.assertFalse(told[1].endswith("0"))
                    self.assertEqual(map_value(way, list(point)), told)
                    self.assertEqual(type(told), tuple)

    def test_the_example(self):
        self.assertEqual(map_value(A, (0, "101")), (0, "011"))
        self.assertEqual(map_value(A, (0, "1100")), (0, "1"))
        self.assertEqual(map_value(A, (0, "")), (0, ""))
        self.assertEqual(map_value(A, (0, "000")), (0, ""))

    def test_long_rows(self):
        row = "01" * 30
        self.assertEqual(map_value(A, (0, row)), (0, "00" + row[1:]))
        self.assertEqual(map_value(no_steps(HALVES, "xx"), (1, row + "0" * 500)), (1, row))

    def test_way_behind_way(self):
        rng = random.Random(307)
        for way in some_ways(308, 60):
            other = random_way(rng, HALVES, way.end(), 6, 14)
            for letter in range(len(way.word())):
                point = (letter, "011")
                there = map_value(way, point)
                self.assertEqual(map_value(put_behind(way, other), point), map_value(other, there))
                self.assertEqual(map_value(turned_back(way), there), point)

    def test_bad_point(self):
        for thing in OTHER_KINDS + [
            "", "01", (), (0,), (0, "0", 1), (1, ""), (True, ""), (-1, "0"), ("0", "0"), (0, "2"), (0, " 1"), (0, 1),
            (0, None), (0, ["0"]), (0, "0a"), (0, "\u0661"), [[0, "0"]], ((0, "0"),), A,
        ]:
            error = raised(map_value, A, thing)
            self.assertIs(type(error), BadPoint, repr(thing))
            self.assertIs(error.thing, thing)
        self.assertIs(type(raised(map_value, no_steps(HALVES, ""), (0, ""))), BadPoint)


class WayOfHalvesTest(unittest.TestCase):
    def test_of_halves_the_bare_way(self):
        for way in some_ways(309):
            told = way_of_halves(table=halves(way))
            self.assertEqual(told, bare_told(way))
            self.assertEqual(way_of_halves(as_lists(halves(way))), told)

    def test_of_tables_with_pairs_halved(self):
        rng = random.Random(310)
        for way in some_ways(311):
            table = halves(way)
            for _ in range(4 if table else 0):
                at = rng.randrange(len(table))
                (letter, row), (other, second) = table[at]
                table[at:at + 1] = [((letter, row + sign), (other, second + sign)) for sign in "01"]
            self.assertEqual(way_of_halves(table), bare(way))

    def test_samples(self):
        self.assertEqual(way_of_halves([]), no_steps(HALVES, ""))
        self.assertEqual(way_of_halves(ONES), Way(HALVES, "xx", [(0, 0, "on")]))
        self.assertEqual(way_of_halves([((0, ""), (0, "")), ((1, ""), (1, ""))]), no_steps(HALVES, "xx"))

    def test_bad_table_of_no_list(self):
        for thing in OTHER_KINDS + ["", "ab", A]:
            error = raised(way_of_halves, thing)
            self.assertIs(type(error), BadTable, repr(thing))
            self.assertEqual(error.index, 0)

    def test_bad_table_of_no_pair_of_places(self):
        for thing in OTHER_KINDS + ["", "ab", (), ((0, ""),), ((0, ""), (0, ""), (0, "")), ((0, ""), 0), ((0, "a"), (0, "")),
                                    ((0, ""), (0, "", 1)), ((True, ""), (0, "")), ((0, ""), (-1, "")), ((0, 0), (0, ""))]:
            for at in range(3):
                error = raised(way_of_halves, ONES[:at] + [thing, None])
                self.assertIs(type(error), BadTable, repr(thing))
                self.assertEqual(error.index, at)

    def test_bad_table_of_what_does_not_follow(self):
        def pair(first, second):
            return ((first[0], first[1]), (second[0], second[1]))
        begun = [pair((0, "0"), (0, "0"))]
        for first, second in (((1, ""), (0, "")), ((0, ""), (1, "")), ((0, "1"), (0, "")), ((0, ""), (0, "01"))):
            self.assertEqual(raised(way_of_halves, [pair(first, second)]).index, 0)
        for first in ((0, "0"), (0, ""), (0, "01"), (1, ""), (0, "11"), (2, ""), (0, "00")):
            self.assertEqual(raised(way_of_halves, begun + [pair(first, (0, "1"))]).index, 1)
            self.assertEqual(raised(way_of_halves, begun + [pair((0, "1"), first)]).index, 1)
        # Noughts and ones may follow in any number.
        self.assertIsNone(raised(way_of_halves, [
            pair((0, "000"), (0, "0")), pair((0, "001"), (0, "100")), pair((0, "01"), (0, "101")), pair((0, "1"), (0, "11")),
        ]))
        self.assertEqual(raised(way_of_halves, begun + [pair((0, "1"), (0, "1")), pair((0, "1"), (1, ""))]).index, 2)
        self.assertEqual(raised(way_of_halves, ONES + [pair((2, ""), (2, ""))]).index, 2)
        self.assertEqual(raised(way_of_halves, ONES + [pair((3, ""), (1, ""))]).index, 2)
        self.assertIsNone(raised(way_of_halves, ONES + [pair((2, ""), (1, ""))]))

    def test_bad_table_of_what_ends_within_a_letter(self):
        for first, second in ((("0"), ("")), ((""), ("0")), (("0"), ("0"))):
            error = raised(way_of_halves, [((0, first), (0, second))])
            self.assertEqual(error.index, 1)
        self.assertEqual(raised(way_of_halves, ONES + [((2, "0"), (1, ""))]).index, 3)
        self.assertEqual(raised(way_of_halves, ONES + [((2, ""), (1, "")), ((3, "00"), (2, ""))]).index, 4)
        for table in (halves(A)[:1], halves(A)[:2]):
            self.assertEqual(raised(way_of_halves, table).index, len(table))


if __name__ == "__main__":
    unittest.main()
