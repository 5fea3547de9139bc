"""[17], [26], [34], [44], [51], [58]: what is as great as the limits let it be, answered promptly."""

import time
import unittest

from tests.helpers import DOUBLES, GREAT, HALVES, TWINS, long_way
from tests.test_orders import TWELVE
from tests.test_rounds import belt, double_belt
from waysback.beginnings import beginning_at, beginnings_count, common, is_beginning
from waysback.books import Book
from waysback.booktexts import book_fault, book_goes_on, book_text, read_book
from waysback.events import at_odds, events, way_of_events
from waysback.exchanges import exchanged, is_apart
from waysback.goings import cut_at, done, put_behind, put_beside, steps_at, turned_back
from waysback.hangings import hangs, order_at, order_number, orders_count, reordered
from waysback.idles import bare, idle_pairs, is_bare, struck
from waysback.joins import joined
from waysback.likeness import alike, distance, fewest
from waysback.merges import merged, struck_out
from waysback.middles import between_count, is_between, middle
from waysback.moves import moved, moves, moves_wrong
from waysback.oncetimes import at_once, earliest, latest
from waysback.pictures import boxes_of, leftmost, same_picture, way_of_boxes
from waysback.pieces import pieces_below, pieces_beside
from waysback.rounds import carried, power, power_steps
from waysback.rowtexts import read_rows, rows_fault, rows_go_on, rows_text
from waysback.sayings import holds, value, words_for
from waysback.straights import fewest_carried, is_straight, straight, strip_pairs
from waysback.unlikes import unlike_paper, unlike_wrong
from waysback.walls import has_wall, wall_from, walls_between
from waysback.ways import Way
from waysback.waytexts import read_way, way_fault, way_goes_on, way_text
from waysback.wiring import comes_from, goes_to, wire_rows, wires

SECONDS = 10
ALIKE = Book([("a" * 10, "a")] * 20)


def great_ways():
    """Ways of two hundred steps with words of up to four hundred letters."""
    ways = [
        long_way(GREAT, ("xy" * 5 + "z") * 5), long_way(ALIKE, "a" * 60), long_way(DOUBLES, "x" * 60),
        Way(TWINS, "a" * 60, [(k % 60, 0, "on" if k // 60 % 2 == 0 else "back") for k in range(200)]),
        Way(DOUBLES, "x" * 60, [(k, 0, "on") for k in range(200)]),
        Way(DOUBLES, "x", [(0, 0, "on")] * 100 + [(0, 0, "back")] * 100),
    ]
    assert all(len(way.steps()) == 200 for way in ways)
    return ways


class LimitsTest(unittest.TestCase):
    def setUp(self):
        self.started = time.perf_counter()

    def tearDown(self):
        self.assertLess(time.perf_counter() - self.started, SECONDS)

    def test_steps_on_long_words(self):
        for word in ("a" * 400, "xy" * 200, "z" * 400):
            for book in (GREAT, ALIKE, HALVES):
                for step in steps_at(book, word)[::50]:
                    done(book, word, step)
        self.assertEqual(len(steps_at(ALIKE, "a" * 400)), 20 * 391 + 20 * 400)

    def test_ways_there_and_back(self):
        for way in great_ways():
            self.assertEqual(put_behind(way, turned_back(way)).end(), way.word())
            self.assertEqual(put_beside(way, way).end(), way.end() * 2)
            for index in range(0, 201, 10):
                self.assertEqual(put_behind(*cut_at(way, index)), way)

    def test_wires_of_each_letter_of_each_word(self):
        for way in great_ways():
            givers = {wire: (step, at) for step, (_, given) in enumerate(wires(way)) for at, wire in enumerate(given)}
            for index, row in enumerate(wire_rows(way)):
                for place in range(0, len(row), 7):
                    expected = givers.get(row[place], (None, row[place]))
                    self.assertEqual(comes_from(way, index, place), expected)
                    goes_to(way, index, place)

    def test_texts_of_books(self):
        great = Book([("ab" * 5, "ba" * 5)] * 20)
        self.assertEqual(read_book(book_text(great)), great)
        text = "rule a to b\n" * 1666
        self.assertIsNone(book_fault(text))
        self.assertEqual(book_fault(text[:-1]), len(text) - 1)
        self.assertEqual(book_goes_on(text + "r"), book_goes_on(text + "r"))
        self.assertEqual(book_fault("rule " + "a" * 19990), 19995)

    def test_texts_of_ways(self):
        for way in great_ways():
            text = way_text(way)
            self.assertEqual(read_way(way.book(), text), way)
            for end in range(0, len(text), 100):
                fault = way_fault(way.book(), text[:end])
                self.assertIn(fault, (None, end))
            self.assertTrue(way_goes_on(way.book(), text + "0").startswith(text))
            self.assertEqual(way_fault(way.book(), text + "x"), len(text))
        long_text = "word " + "x" * 10 + "\n" + "9 0 on\n" * 2850
        self.assertIsNone(way_fault(Book([("x", "x")]), long_text))
        self.assertEqual(way_fault(HALVES, "word " + "x" * 19990 + "\n0 1"), 19998)

    def test_rows(self):
        for way in great_ways():
            short = cut_at(way, 45)[0]
            text = rows_text(short)
            self.assertEqual(read_rows(way.book(), text), short)
            for end in range(0, len(text), 100):
                self.assertEqual(rows_fault(way.book(), text[:end]), end)
            self.assertEqual(rows_fault(way.book(), text + "x"), len(text))
            self.assertTrue(rows_go_on(way.book(), text[:-1]).startswith(text[:-1]))
        self.assertIsNone(rows_fault(TWINS, "[a] 1 on\n[b] 0 back\n" * 900 + "a\n"))

    def test_pictures(self):
        for way in great_ways():
            boxes = boxes_of(way)
            self.assertEqual(way_of_boxes(way.book(), way.word(), boxes[::-1]), leftmost(way))
            self.assertTrue(same_picture(way, leftmost(way)))
            for index in range(199):
                if is_apart(way, index):
                    self.assertTrue(is_apart(exchanged(way, index), index))

    def test_hangs_and_times(self):
        for way in great_ways():
            self.assertEqual(len(hangs(way)), 200)
            self.assertEqual(len(earliest(way)), len(latest(way)))
            self.assertEqual(sum(len(lot) for lot in at_once(way)), 200)
            self.assertEqual(reordered(way, list(range(200))), way)

    def test_orders_of_twelve_steps(self):
        ways = [Way(DOUBLES, "x" * 12, [(2 * k, 0, "on") for k in range(12)]),
                Way(DOUBLES, "x", [(k, 0, "on") for k in range(12)]), Way(DOUBLES, "x", [(0, 0, "on")] * 12),
                long_way(GREAT, "xyz" * 10, 12), long_way(HALVES, "x" * 10, 12), long_way(TWINS, "ab" * 5, 12)]
        for way in ways:
            many = orders_count(way)
            for number in sorted({0, many // 3, many // 2, many - 1}):
                order = order_at(way, number)
                self.assertEqual(order_number(way, order), number)
                self.assertTrue(same_picture(reordered(way, order), way))

    def test_orders_of_many_ways_one_after_another(self):
        for _ in range(250):
            for way in TWELVE:
                many = orders_count(way)
                self.assertEqual(order_number(way, order_at(way, many - 1)), many - 1)

    def test_pieces(self):
        for way in great_ways() + [Way(TWINS, "ab" * 30, [])]:
            self.assertEqual("".join(piece.word() for piece in pieces_beside(way)), way.word())
            self.assertEqual(sum(len(piece.steps()) for piece in pieces_below(way)), len(way.steps()))

    def test_idle_pairs_and_bare_ways(self):
        for way in great_ways():
            there = put_behind(way, turned_back(way))
            self.assertEqual(bare(there), Way(way.book(), way.word(), []))
            self.assertTrue(is_bare(bare(way)))
            for pair in idle_pairs(there)[::10]:
                self.assertEqual(len(struck(there, pair).steps()), len(there.steps()) - 2)
            self.assertEqual(distance(way, bare(way)), 0)
            self.assertEqual(fewest(way), fewest(turned_back(way)))

    def test_moves_of_a_hundred_steps(self):
        for way in great_ways():
            way = cut_at(way, 100)[0]
            back = Way(way.book(), way.word(), way.steps()[:50] + turned_back(cut_at(way, 50)[0]).steps())
            none = Way(way.book(), way.word(), [])
            for first, second in ((way, bare(way)), (bare(way), way), (back, none), (none, back), (way, way)):
                told = moves(first, second)
                self.assertIsNone(moves_wrong(first, second, told))
                for move in told[:50]:
                    first = moved(first, move)
            other = Way(way.book(), way.word(), way.steps()[:99])
            self.assertIsNone(unlike_wrong(way, other, unlike_paper(way, other)))
            self.assertIs(alike(way, other), False)

    def test_many_moves(self):
        places = list(reversed(range(60))) + list(reversed(range(40)))
        way = Way(DOUBLES, "x" * 60, [(place, 0, "on") for place in places])
        told = moves(way, bare(way))
        self.assertGreater(len(told), 2000)
        self.assertIsNone(moves_wrong(way, bare(way), told))
        self.assertIsNone(moves_wrong(way, way, [("exchange", 0), ("exchange", 0)] * 10000))

    def test_beginnings_events_and_walls(self):
        for way in great_ways():
            half = cut_at(bare(way), len(bare(way).steps()) // 2)[0]
            other = put_behind(half, long_way(way.book(), half.end(), 100, 400, 11))
            self.assertTrue(is_beginning(half, way) and is_beginning(common(way, other), other))
            for one in (way, other):
                many = beginnings_count(one)
                for number in (0, many // 3, many - 1):
                    self.assertTrue(is_beginning(beginning_at(one, number), one))
            told = events(way)
            self.assertEqual(len(told), fewest(way))
            if told:
                self.assertEqual(way_of_events(way.book(), way.word(), told[:100])[0], "way")
                self.assertTrue(has_wall(told[-1], way))
                wall_from(told[-1], other)
                for index in range(0, len(told), 20):
                    struck_out(way, index)
            mine, theirs = walls_between(way, other)
            self.assertEqual(len(mine) + len(theirs), distance(way, other))

    def test_joins_middles_and_merges(self):
        for way in great_ways():
            way = bare(way)
            parts = [cut_at(way, len(way.steps()) * part // 10)[0] for part in range(1, 10)]
            self.assertEqual(merged(way, parts + [way]), ("way", parts[0]))
            other = put_behind(parts[0], long_way(way.book(), parts[0].end(), 150, 400, 12))
            self.assertIs(at_odds(way, other) == [], joined(way, other)[0] == "way")
            told = middle(way, other, parts[-1])
            self.assertTrue(is_between(way, other, told))
            self.assertGreater(between_count(way, other), 0)

    def test_powers_and_sayings(self):
        rounds = [great_round(seed) for seed in (1, 2, 3)]
        for way in rounds:
            self.assertEqual(power(way, 4), bare(put_behind(power(way, 3), way)))
            self.assertTrue(alike(carried(way, way), way))
        saying = 0
        for kind in ("back", "around", "carried", "behind", "times", "back", "around"):
            saying = (kind, saying) if kind == "back" else (kind, saying, 1 if kind == "times" else 2)
        self.assertTrue(holds(rounds, ("behind", saying, ("back", saying)), ("none",)))
        self.assertEqual(len(value(rounds, saying).steps()) % 2, 0)
        word = put_behind(put_behind(rounds[2], turned_back(rounds[0])), put_behind(rounds[1], rounds[1]))
        self.assertIn([(2, "on"), (0, "back"), (1, "on"), (1, "on")], words_for(rounds, word, 4))

    def test_steps_of_great_powers(self):
        rounds = [cut_round(30, seed) for seed in range(8)]
        rounds += [belt(9, 10), double_belt(2, 10), double_belt(4, 10), double_belt(5, 10), belt(1, 10)]
        for way in rounds:
            self.assertLessEqual(len(way.steps()), 30)
            self.assertLessEqual(len(way.word()), 12)
            for number in (999999999, -999999999):
                more = power_steps(way, number) - power_steps(way, abs(number) - 1)
                self.assertEqual(more, fewest_carried(way))

    def test_straight_rounds(self):
        rounds = [great_round(seed) for seed in range(6)] + [belt(9, 18), double_belt(6, 18), double_belt(9, 18)]
        for way in rounds:
            carrier, core = straight(way)
            self.assertTrue(is_straight(core) and strip_pairs(core) == [])
            self.assertTrue(alike(carried(way, carrier), core))


def cut_round(many, seed):
    """A round of so many steps from a word of twelve letters: there, other steps, and back."""
    there = long_way(DOUBLES, "x" * 12, many // 2 - 4, 30, seed)
    other = Way(DOUBLES, there.end(), [(0, 0, "on"), (3, 0, "on"), (4, 0, "on"), (6, 0, "back"), (1, 0, "back"), (2, 0, "back")])
    return put_behind(put_behind(there, other), turned_back(there))


def great_round(seed):
    """A round of a hundred steps from a word of twenty letters."""
    there = long_way(DOUBLES, "x" * 20, 30, 60, seed)
    other = long_way(DOUBLES, there.end(), 20, 60, seed + 50)
    back = turned_back(there)
    way = put_behind(put_behind(there, other), Way(DOUBLES, other.end(), []))
    spare = len(other.end()) - len(there.end())
    turn = "back" if spare > 0 else "on"
    way = put_behind(way, Way(DOUBLES, way.end(), [(0, 0, turn)] * abs(spare)))
    return put_behind(way, back)


if __name__ == "__main__":
    unittest.main()
