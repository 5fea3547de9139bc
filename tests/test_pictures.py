"""[20], [21]: pictures, and boxes read."""

import random
import unittest

from tests.helpers import (
    BOOKS, DOUBLES, HALVES, MIXED, OTHER_KINDS, RING, TWINS, all_ways, anything, as_lists, as_tuples, lists_within,
    raised, sample_ways,
)
from waysback.books import Book
from waysback.errors import BadBook, BadBoxes, BadOther, BadWay, BadWord
from waysback.exchanges import exchanged, is_apart
from waysback.pictures import boxes_of, leftmost, same_picture, way_of_boxes
from waysback.ways import Way
from waysback.wiring import wires


def exchange_class(way):
    """The list of all ways to which exchanges lead from way, itself among them."""
    found = [way]
    for one in found:
        for index in range(len(one.steps()) - 1):
            if is_apart(one, index) and exchanged(one, index) not in found:
                found.append(exchanged(one, index))
    return found


def leftmost_steps(way):
    """The steps of the leftmost order, told anew here by trying all boxes each time."""
    row = list(range(len(way.word())))
    boxes = list(zip(way.steps(), wires(way)))
    steps = []
    while boxes:
        ready = []
        for box in boxes:
            taken = box[1][0]
            for place in range(len(row)):
                if row[place:place + len(taken)] == taken:
                    ready.append((place, box))
        place, box = min(ready, key=lambda pair: pair[0])
        boxes.remove(box)
        row[place:place + len(box[1][0])] = box[1][1]
        steps.append((place,) + box[0][1:])
    return steps


def small_ways(most=6):
    return [way for way in sample_ways(21, 14) if len(way.steps()) <= most and len(way.word()) < 5]


def renumbered(rng, many, boxes):
    """The boxes in another order, and with other numbers of the wires that are given."""
    numbers = {wire: wire for wire in range(many)}
    fresh = rng.sample(range(many, 10 ** 9), sum(len(box[3]) for box in boxes))
    for box in boxes:
        for wire in box[3]:
            numbers[wire] = fresh.pop()
    told = [(rule, turn, [numbers[wire] for wire in taken], [numbers[wire] for wire in given])
            for rule, turn, taken, given in boxes]
    rng.shuffle(told)
    return told


class LeftmostTest(unittest.TestCase):
    def test_always_the_leftmost_box_that_can_be_done(self):
        for way in sample_ways(20, 25, 12):
            told = leftmost(way=way)
            self.assertEqual(told.steps(), leftmost_steps(way))
            self.assertEqual((told.book(), told.word(), told.end()), (way.book(), way.word(), way.end()))
            self.assertEqual(leftmost(told), told)

    def test_a_box_that_can_be_done_only_behind_one_to_its_right(self):
        book = Book([("b", "c"), ("aac", "d"), ("x", "y"), ("a", "a")])
        way = Way(book, "aabx", [(3, 2, "on"), (2, 0, "on"), (0, 1, "on")])
        self.assertEqual(leftmost(way).steps(), [(2, 0, "on"), (0, 1, "on"), (1, 2, "on")])

    def test_exchanges_do_not_change_it(self):
        for way in small_ways():
            for other in exchange_class(way)[:60]:
                self.assertEqual(leftmost(other), leftmost(way))
                self.assertTrue(same_picture(way, other))

    def test_boxes_of(self):
        for way in sample_ways():
            told = leftmost(way)
            expected = [step[1:] + pair for step, pair in zip(told.steps(), wires(told))]
            self.assertEqual(boxes_of(way=way), expected)
            self.assertTrue(all(type(box) is tuple for box in boxes_of(way)))

    def test_the_example(self):
        way = Way(DOUBLES, "xx", [(0, 0, "on"), (2, 0, "on")])
        boxes = [(0, "on", [0], [2, 3]), (0, "on", [1], [4, 5])]
        self.assertEqual(boxes_of(way), boxes)
        self.assertEqual(boxes_of(exchanged(way, 0)), boxes)
        self.assertEqual(leftmost(exchanged(way, 0)), way)
        other = [(0, "on", [1], [7, 8]), (0, "on", [0], [9, 5])]
        self.assertEqual(way_of_boxes(DOUBLES, "xx", other), way)

    def test_told_lists_are_new_and_none_stands_twice(self):
        for way in sample_ways():
            found = lists_within(boxes_of(way)) + lists_within(boxes_of(way))
            self.assertEqual(len(found), len({id(thing) for thing in found}))


class SamePictureTest(unittest.TestCase):
    def test_just_those_to_which_exchanges_lead(self):
        for book, word, letters in ((DOUBLES, "xx", 3), (TWINS, "ab", 3), (RING, "ab", 2), (HALVES, "xxx", 3)):
            ways = [way for way in all_ways(book, "".join(sorted(set(word))), len(word), letters) if way.word() == word]
            led = {}
            for number, way in enumerate(ways):
                if number not in led:
                    for other in exchange_class(way):
                        led[ways.index(other)] = number
            rng = random.Random(9)
            for _ in range(1500):
                one, two = rng.randrange(len(ways)), rng.randrange(len(ways))
                other = Way(Book(book.rules()), word, ways[two].steps())
                self.assertIs(same_picture(way=ways[one], other=other), led[one] == led[two])
            for one, two in led.items():
                self.assertIs(same_picture(ways[one], ways[two]), True)

    def test_bad_way_and_bad_other(self):
        way = Way(MIXED, "ab", [(0, 0, "on")])
        for thing in anything():
            if not isinstance(thing, Way):
                for call, more in ((leftmost, ()), (boxes_of, ()), (same_picture, (None,))):
                    error = raised(call, thing, *more)
                    self.assertIs(type(error), BadWay)
                    self.assertIs(error.thing, thing)
            if not isinstance(thing, Way) or thing.word() != "ab":
                error = raised(same_picture, way, thing)
                self.assertIs(type(error), BadOther)
                self.assertIs(error.thing, thing)
        for other in [Way(HALVES, "ab", []), Way(MIXED, "ba", []), Way(MIXED, "", [])]:
            self.assertIs(type(raised(same_picture, way, other)), BadOther)


class BoxesReadTest(unittest.TestCase):
    def test_boxes_of_in_other_orders_with_other_numbers(self):
        rng = random.Random(10)
        for way in sample_ways():
            many = len(way.word())
            for change in (lambda boxes: boxes, as_lists, as_tuples):
                self.assertEqual(way_of_boxes(way.book(), way.word(), change(boxes_of(way))), leftmost(way))
                boxes = change(renumbered(rng, many, boxes_of(way)))
                self.assertEqual(way_of_boxes(book=way.book(), word=way.word(), boxes=boxes), leftmost(way))

    def test_no_boxes(self):
        for book in BOOKS:
            self.assertEqual(way_of_boxes(book, "ab", []), Way(book, "ab", []))
            self.assertEqual(way_of_boxes(book, "", ()), Way(book, "", []))

    def hold_bad(self, book, word, boxes, index):
        error = raised(way_of_boxes, book, word, boxes)
        self.assertIs(type(error), BadBoxes, repr(boxes))
        self.assertEqual(error.index, index, repr(boxes))

    def test_no_list(self):
        for thing in OTHER_KINDS + ["", "ab", HALVES, Way(HALVES, "", [])]:
            self.hold_bad(HALVES, "xx", thing, 0)

    def test_each_clause_and_the_first_of_several(self):
        right = [(0, "on", [0], [10, 11]), (0, "on", [1], [12, 13]), (0, "on", [2], [14, 15])]
        wrong = anything() + [
            (1, "on", [5], [20, 21]), (-1, "on", [5], [20, 21]), (True, "on", [5], [20]), ("0", "on", [5], [20, 21]),
            (0, "off", [5], [20, 21]), (0, None, [5], [20, 21]), (0, ["on"], [5], [20, 21]),
            (0, "on", [5, 6], [20, 21]), (0, "on", [], [20, 21]), (0, "on", 5, [20, 21]), (0, "on", "5", [20, 21]),
            (0, "on", [5], [20]), (0, "on", [5], [20, 21, 22]), (0, "on", [5], None), (0, "back", [5], [20, 21]),
            (0, "on", [-5], [20, 21]), (0, "on", [True], [20, 21]), (0, "on", ["5"], [20, 21]), (0, "on", [[5]], [20, 21]),
            (0, "on", [5], [20, -1]), (0, "on", [5], [False, 21]), (0, "on", [5], [20, "21"]), (0, "on", [5], {20: 21}),
            (0, "on", [5]), (0, "on", [5], [20, 21], 0), (0, "on", [5], [0, 20]), (0, "on", [5], [20, 2]),
            (0, "on", [5], [20, 20]), (0, "back", [5, 5], [20]), (0, "back", [6, 5], [None]),
        ]
        for thing in wrong:
            for index in range(4):
                boxes = right[:index] + [thing] + right[index:]
                self.hold_bad(DOUBLES, "xxx", boxes + [None], index)

    def test_a_turn_otherwise_where_both_sides_have_as_many_letters(self):
        for turn in OTHER_KINDS + ["off", "", "On", ["on"], ("back",)]:
            self.hold_bad(RING, "aa", [(0, "on", [0], [2]), (0, turn, [1], [3]), None], 1)

    def test_a_wire_given_or_taken_already_by_one_ahead(self):
        boxes = [(0, "on", [0], [10, 11]), (0, "on", [1], [12, 11])]
        self.hold_bad(DOUBLES, "xx", boxes, 1)
        self.hold_bad(DOUBLES, "xx", [(0, "on", [0], [10, 11]), (0, "on", [0], [12, 13])], 1)
        self.hold_bad(DOUBLES, "xx", [(0, "on", [9], [10, 11]), (0, "on", [9], [12, 13]), None], 1)
        self.hold_bad(DOUBLES, "xx", [(0, "on", [9], [10, 11]), (0, "on", [8], [1, 13]), None], 1)

    def test_what_is_wrong_in_form_is_told_ahead_of_what_is_left(self):
        self.hold_bad(DOUBLES, "xx", [(0, "on", [9], [10, 11]), (0, "on", [0], [2, 3]), None], 2)

    def test_boxes_that_are_left(self):
        one, two = (0, "on", [0], [10, 11]), (0, "on", [1], [12, 13])
        self.hold_bad(DOUBLES, "xx", [one, (0, "on", [9], [20, 21]), two], 1)
        self.hold_bad(DOUBLES, "xx", [(0, "on", [9], [20, 21]), one, (0, "on", [20], [30, 31])], 0)
        self.hold_bad(DOUBLES, "xx", [one, (0, "on", [20], [30, 31]), (0, "on", [9], [20, 21])], 1)
        # Side by side, and in their order.
        self.hold_bad(DOUBLES, "xx", [one, two, (0, "back", [11, 13], [20])], 2)
        self.hold_bad(DOUBLES, "xx", [one, two, (0, "back", [12, 11], [20])], 2)
        self.assertEqual(len(way_of_boxes(DOUBLES, "xx", [one, two, (0, "back", [11, 12], [20])]).steps()), 3)
        # Of the letters of the source.
        self.hold_bad(DOUBLES, "ax", [two, one], 1)
        self.hold_bad(MIXED, "ab", [(0, "on", [0, 1], [2, 3]), (0, "on", [2, 3], [4, 5])], 1)
        self.hold_bad(DOUBLES, "", [one], 0)
        # By itself, or around.
        self.hold_bad(RING, "a", [(0, "on", [5], [5])], 0)
        self.hold_bad(RING, "a", [(0, "on", [0], [7]), (1, "on", [5], [6]), (2, "on", [6], [5])], 1)

    def test_a_box_ahead_of_the_one_that_gives_what_it_takes(self):
        boxes = [(2, "on", [9], [8]), (1, "on", [7], [9]), (0, "on", [0], [7])]
        self.assertEqual(way_of_boxes(RING, "a", boxes), Way(RING, "a", [(0, 0, "on"), (0, 1, "on"), (0, 2, "on")]))

    def test_which_are_left_of_boxes_with_one_taken_away(self):
        rng = random.Random(12)
        for way in sample_ways():
            boxes = boxes_of(way)
            for gone in range(len(boxes)):
                some = boxes[:gone] + boxes[gone + 1:]
                lacking, left = set(boxes[gone][3]), []
                for box in some:
                    if lacking & set(box[2]):
                        lacking |= set(box[3])
                        left.append(box)
                rng.shuffle(some)
                if left:
                    self.hold_bad(way.book(), way.word(), some, min(some.index(box) for box in left))
                else:
                    self.assertEqual(len(way_of_boxes(way.book(), way.word(), some).steps()), len(some))

    def test_what_is_passed_is_not_changed(self):
        boxes = [[0, "on", [1], [7, 8]], [0, "on", [0], [9, 5]]]
        way = way_of_boxes(DOUBLES, "xx", boxes)
        self.assertEqual(boxes, [[0, "on", [1], [7, 8]], [0, "on", [0], [9, 5]]])
        boxes[0][2][0] = 5
        self.assertEqual(way.steps(), [(0, 0, "on"), (2, 0, "on")])

    def test_bad_book_and_bad_word_in_their_order(self):
        for thing in anything():
            if not isinstance(thing, Book):
                error = raised(way_of_boxes, thing, None, None)
                self.assertIs(type(error), BadBook)
                self.assertIs(error.thing, thing)
            if thing not in ("", "ab"):
                error = raised(way_of_boxes, HALVES, thing, None)
                self.assertIs(type(error), BadWord)
                self.assertIs(error.thing, thing)


if __name__ == "__main__":
    unittest.main()
