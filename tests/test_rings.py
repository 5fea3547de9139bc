"""[54], [55]: rings of straight rounds, and whether two rounds have the same parts."""

import random
import unittest

from tests.helpers import HALVES, RING, ROUND_BOOKS, SWAPS, TWINS, anything, lists_within, raised, random_round
from tests.helpers import random_way, sample_rounds
from tests.oracles import boxes_by_step
from tests.test_rounds import A, BELTS, FIRST
from tests.test_straights import TURN
from waysback.books import Book
from waysback.errors import BadOther, BadWay, NotRound, NotStraight
from waysback.goings import put_beside, turned_back
from waysback.rings import ring, same_parts
from waysback.rounds import carried, no_steps, power
from waysback.straights import straight, strip_pairs
from waysback.ways import Way

SAME = Book([("x", "x"), ("xx", "xx"), ("y", "x")])
PART = [(0, "on", [(1, 0)], [(2, 0)]), (2, "on", [(2, 0)], [(0, 0)]), (1, "on", [(0, 0)], [(1, 0)])]


def ring_told(way):
    """The ring of a straight round, read off the middle of so many copies that all wires come to an end."""
    many, copies = len(way.steps()), 2 * len(way.word()) + 3
    boxes = boxes_by_step(Way(way.book(), way.word(), way.steps() * copies))
    givers = {wire: (at, which) for at, box in enumerate(boxes) for which, wire in enumerate(box[3])}
    takers = {wire: (at, which) for at, box in enumerate(boxes) for which, wire in enumerate(box[2])}
    rows = [list(range(len(way.word())))]
    for place, box in zip([step[0] for step in way.steps() * copies], boxes):
        rows.append(rows[-1][:place] + box[3] + rows[-1][place + len(box[2]):])
    middle = copies // 2 * many
    own = [
        (boxes[at][0], boxes[at][1],
         [(givers[wire][0] % many, givers[wire][1]) for wire in boxes[at][2]],
         [(takers[wire][0] % many, takers[wire][1]) for wire in boxes[at][3]])
        for at in range(middle, middle + many)
    ]
    items = []
    seen = set()
    for wire, letter in zip(rows[middle], Way(way.book(), way.word(), []).word()):
        if wire not in givers:
            if items and items[-1][0] == "word":
                items[-1] = ("word", items[-1][1] + letter)
            else:
                items.append(("word", letter))
        elif givers[wire][0] % many not in seen:
            tellings = part_tellings(own, givers[wire][0] % many)
            seen |= {start for start, _ in tellings}
            least = min(telling for _, telling in tellings)
            items.append(("part", least, sum(telling == least for _, telling in tellings)))
    return items


def part_tellings(own, start):
    """All pairs of a box of the part of start, and how the part is told from that box on."""
    told = []
    for first in met(own, start):
        order = met(own, first)
        told.append((first, [
            (own[box][0], own[box][1], [(order.index(other), which) for other, which in own[box][2]],
             [(order.index(other), which) for other, which in own[box][3]])
            for box in order
        ]))
    return told


def met(own, start):
    order = [start]
    for box in order:
        for other, _ in own[box][2] + own[box][3]:
            if other not in order:
                order.append(other)
    return order


def beside(*ways):
    told = ways[0]
    for way in ways[1:]:
        told = put_beside(told, way)
    return told


class RingTest(unittest.TestCase):
    def test_the_example(self):
        self.assertEqual(ring(TURN), [("part", PART, 1)])
        self.assertEqual(ring(way=put_beside(TURN, no_steps(RING, "b"))), [("part", PART, 1), ("word", "b")])
        at_b = carried(TURN, Way(RING, "a", [(0, 0, "on")]))
        self.assertEqual(at_b, Way(RING, "b", [(0, 1, "on"), (0, 2, "on"), (0, 0, "on")]))
        self.assertEqual(ring(at_b), [("part", PART, 1)])

    def test_as_read_off_many_copies(self):
        for way in sample_rounds(200) + BELTS + [A, FIRST]:
            core = straight(way)[1]
            self.assertEqual(ring(core), ring_told(core))

    def test_side_by_side(self):
        rng = random.Random(201)
        for book in ROUND_BOOKS:
            letters = sorted({letter for rule in book.rules() for side in rule for letter in side})
            for _ in range(8):
                cores = [
                    straight(random_round(rng, book, "".join(rng.choice(letters) for _ in range(2)), 4))[1]
                    for _ in range(3)
                ]
                self.assertEqual(ring(beside(*cores)), ring_told(beside(*cores)))

    def test_circles_next_to_one_another_are_one_word(self):
        way = beside(no_steps(RING, "ab"), TURN, no_steps(RING, "c"), no_steps(RING, "ba"), TURN, TURN)
        part = ("part", PART, 1)
        self.assertEqual(ring(way), [("word", "ab"), part, ("word", "cba"), part, part])
        self.assertEqual(ring(no_steps(RING, "abca")), [("word", "abca")])
        self.assertEqual(ring(no_steps(RING, "")), [])

    def test_one_box_alone(self):
        self.assertEqual(ring(Way(SAME, "x", [(0, 0, "on")])), [("part", [(0, "on", [(0, 0)], [(0, 0)])], 1)])
        pair = [(0, 0), (0, 1)]
        self.assertEqual(ring(Way(SAME, "xx", [(0, 1, "back")])), [("part", [(1, "back", pair, pair)], 1)])

    def test_turns(self):
        for number in (1, 2, 5):
            way = Way(SAME, "x", [(0, 0, "on")] * number)
            self.assertEqual(ring(way)[0][2], number)
            self.assertEqual(ring(power(TURN, number)), ring(Way(RING, "a", TURN.steps() * number)))
            self.assertEqual([len(ring(power(TURN, number))[0][1]), ring(power(TURN, number))[0][2]], [3 * number, number])
        both = beside(Way(SAME, "x", [(0, 0, "on")] * 2), no_steps(SAME, "y"), Way(SAME, "xx", [(0, 1, "on")] * 3))
        self.assertEqual([item[-1] for item in ring(both)], [2, "y", 3])

    def test_done_n_times_turns_are_so_many_more(self):
        for way in sample_rounds(202, 6) + BELTS:
            core = straight(way)[1]
            once = ring(core)
            for number in (2, 3):
                told = ring(power(core, number))
                self.assertEqual(len(told), len(once))
                for item, more in zip(once, told):
                    if item[0] == "word":
                        self.assertEqual(more, item)
                    else:
                        self.assertEqual((len(more[1]), more[2]), (len(item[1]) * number, item[2] * number))

    def test_cut_at_another_place(self):
        for way in sample_rounds(203) + BELTS:
            core = straight(way)[1]
            steps = core.steps()
            for at in range(len(steps)):
                moved = Way(core.book(), core.words()[at], steps[at:] + steps[:at])
                self.assertEqual([item for item in ring(moved) if item[0] == "part"],
                                 [item for item in ring(core) if item[0] == "part"])

    def test_in_whatever_order_the_boxes_are_done(self):
        way = beside(TURN, power(TURN, 2))
        first, second = TURN.steps(), [(1, rule, turn) for _, rule, turn in power(TURN, 2).steps()]
        mixed = Way(RING, "aa", second[:2] + first[:1] + second[2:] + first[1:])
        self.assertEqual(ring(mixed), ring(way))

    def test_lists_are_lists_and_items_tuples(self):
        told = ring(put_beside(TURN, no_steps(RING, "b")))
        self.assertIsInstance(told, list)
        _, boxes, turns = told[0]
        self.assertEqual([type(thing) for thing in (told[0], boxes, turns, boxes[0])], [tuple, list, int, tuple])
        self.assertEqual([type(thing) for thing in boxes[0]], [int, str, list, list])
        self.assertIsInstance(boxes[0][2][0], tuple)
        found = lists_within(told)
        self.assertEqual(len({id(thing) for thing in found}), len(found))

    def test_not_straight_with_the_first_pair(self):
        seen = 0
        for way in sample_rounds(204) + BELTS + [A]:
            pairs = strip_pairs(way)
            error = raised(ring, way)
            if pairs:
                self.assertIs(type(error), NotStraight)
                self.assertEqual(error.pair, pairs[0])
                seen += 1
            else:
                self.assertIsNone(error)
        self.assertGreater(seen, 20)

    def test_bad_way_then_not_round(self):
        for thing in anything():
            if not isinstance(thing, Way):
                error = raised(ring, thing)
                self.assertIs(type(error), BadWay)
                self.assertIs(error.thing, thing)
        error = raised(ring, Way(HALVES, "xxx", [(0, 0, "on")]))
        self.assertIs(type(error), NotRound)
        self.assertEqual(error.end, "xx")


class SamePartsTest(unittest.TestCase):
    def test_of_what_a_round_is_carried_to(self):
        rng = random.Random(205)
        for way in sample_rounds(206) + BELTS:
            other = carried(way, random_way(rng, way.book(), way.word(), rng.randrange(7), 9))
            self.assertIs(same_parts(way=way, other=other), True)
            self.assertIs(same_parts(other, way), True)
            self.assertIs(same_parts(way, put_beside(no_steps(way.book(), "zz"), other)), True)

    def test_by_the_rings_of_straight_rounds(self):
        rounds = sample_rounds(207, 8)
        seen = {True: 0, False: 0}
        for way in rounds:
            for other in rounds:
                if way.book() == other.book():
                    parts = [
                        [item[1] for item in ring(straight(one)[1]) if item[0] == "part"] for one in (way, other)
                    ]
                    self.assertIs(same_parts(way, other), parts[0] == parts[1])
                    seen[parts[0] == parts[1]] += 1
        self.assertTrue(seen[True] > 50 and seen[False] > 50, seen)

    def test_parts_in_another_order_and_words_of_circles_alone(self):
        twice = power(TURN, 2)
        self.assertIs(same_parts(put_beside(TURN, twice), put_beside(twice, TURN)), False)
        self.assertIs(same_parts(put_beside(TURN, twice), beside(no_steps(RING, "b"), TURN, no_steps(RING, "cc"), twice)), True)
        self.assertIs(same_parts(no_steps(RING, ""), no_steps(RING, "abc")), True)
        self.assertIs(same_parts(no_steps(RING, "a"), TURN), False)
        self.assertIs(same_parts(TURN, twice), False)
        self.assertIs(same_parts(TURN, turned_back(TURN)), False)

    def test_a_circle_that_is_left_by_a_part_struck(self):
        # Around, these boxes undo one another and leave a circle of either side of the rule.
        first = Way(SWAPS, "ab", [(0, 0, "on"), (0, 0, "back")])
        self.assertIs(same_parts(first, no_steps(SWAPS, "x")), True)
        self.assertIs(same_parts(Way(TWINS, "a", [(0, 0, "on"), (0, 0, "back")]), no_steps(TWINS, "b")), True)
        self.assertIs(same_parts(Way(TWINS, "a", [(0, 0, "on"), (0, 1, "back")]), no_steps(TWINS, "b")), False)

    def test_errors_in_their_order(self):
        leading = Way(RING, "ab", [(0, 0, "on")])
        for thing in anything():
            if not isinstance(thing, Way):
                error = raised(same_parts, thing, None)
                self.assertIs(type(error), BadWay)
                self.assertIs(error.thing, thing)
            error = raised(same_parts, leading, thing)
            self.assertIs(type(error), NotRound)
            self.assertEqual(error.end, "bb")
            error = raised(same_parts, TURN, thing)
            self.assertIs(type(error), BadOther)
            self.assertIs(error.thing, thing)
        error = raised(same_parts, TURN, leading)
        self.assertIs(type(error), NotRound)
        self.assertEqual(error.end, "bb")
        self.assertIs(type(raised(same_parts, TURN, Way(HALVES, "xx", [(0, 0, "on")]))), BadOther)


if __name__ == "__main__":
    unittest.main()
