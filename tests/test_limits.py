"""[17], [26]: books, words, ways and texts as great as the limits let them be, answered promptly."""

import time
import unittest

from tests.helpers import DOUBLES, GREAT, HALVES, TWINS, long_way
from waysback.books import Book
from waysback.booktexts import book_fault, book_goes_on, book_text, read_book
from waysback.exchanges import exchanged, is_apart
from waysback.goings import cut_at, done, put_behind, put_beside, steps_at, turned_back
from waysback.hangings import hangs, order_at, order_number, orders_count, reordered
from waysback.oncetimes import at_once, earliest, latest
from waysback.pictures import boxes_of, leftmost, same_picture, way_of_boxes
from waysback.rowtexts import read_rows, rows_fault, rows_go_on, rows_text
from waysback.ways import Way
from waysback.waytexts import read_way, way_fault, way_goes_on, way_text
from waysback.wiring import comes_from, goes_to, wire_rows, wires

SECONDS = 10
ALIKE = Book([("a" * 10, "a")] * 20)


def great_ways():
    """Ways of two hundred steps with words of up to four hundred letters."""
    ways = [
        long_way(GREAT, ("xy" * 5 + "z") * 5), long_way(ALIKE, "a" * 60), long_way(DOUBLES, "x" * 60),
        Way(TWINS, "a" * 60, [(k % 60, 0, "on" if k // 60 % 2 == 0 else "back") for k in range(200)]),
        Way(DOUBLES, "x" * 60, [(k, 0, "on") for k in range(200)]),
        Way(DOUBLES, "x", [(0, 0, "on")] * 100 + [(0, 0, "back")] * 100),
    ]
    assert all(len(way.steps()) == 200 for way in ways)
    return ways


class LimitsTest(unittest.TestCase):
    def setUp(self):
        self.started = time.perf_counter()

    def tearDown(self):
        self.assertLess(time.perf_counter() - self.started, SECONDS)

    def test_steps_on_long_words(self):
        for word in ("a" * 400, "xy" * 200, "z" * 400):
            for book in (GREAT, ALIKE, HALVES):
                for step in steps_at(book, word)[::50]:
                    done(book, word, step)
        self.assertEqual(len(steps_at(ALIKE, "a" * 400)), 20 * 391 + 20 * 400)

    def test_ways_there_and_back(self):
        for way in great_ways():
            self.assertEqual(put_behind(way, turned_back(way)).end(), way.word())
            self.assertEqual(put_beside(way, way).end(), way.end() * 2)
            for index in range(0, 201, 10):
                self.assertEqual(put_behind(*cut_at(way, index)), way)

    def test_wires_of_each_letter_of_each_word(self):
        for way in great_ways():
            givers = {wire: (step, at) for step, (_, given) in enumerate(wires(way)) for at, wire in enumerate(given)}
            for index, row in enumerate(wire_rows(way)):
                for place in range(0, len(row), 7):
                    expected = givers.get(row[place], (None, row[place]))
                    self.assertEqual(comes_from(way, index, place), expected)
                    goes_to(way, index, place)

    def test_texts_of_books(self):
        great = Book([("ab" * 5, "ba" * 5)] * 20)
        self.assertEqual(read_book(book_text(great)), great)
        text = "rule a to b\n" * 1666
        self.assertIsNone(book_fault(text))
        self.assertEqual(book_fault(text[:-1]), len(text) - 1)
        self.assertEqual(book_goes_on(text + "r"), book_goes_on(text + "r"))
        self.assertEqual(book_fault("rule " + "a" * 19990), 19995)

    def test_texts_of_ways(self):
        for way in great_ways():
            text = way_text(way)
            self.assertEqual(read_way(way.book(), text), way)
            for end in range(0, len(text), 100):
                fault = way_fault(way.book(), text[:end])
                self.assertIn(fault, (None, end))
            self.assertTrue(way_goes_on(way.book(), text + "0").startswith(text))
            self.assertEqual(way_fault(way.book(), text + "x"), len(text))
        long_text = "word " + "x" * 10 + "\n" + "9 0 on\n" * 2850
        self.assertIsNone(way_fault(Book([("x", "x")]), long_text))
        self.assertEqual(way_fault(HALVES, "word " + "x" * 19990 + "\n0 1"), 19998)

    def test_rows(self):
        for way in great_ways():
            short = cut_at(way, 45)[0]
            text = rows_text(short)
            self.assertEqual(read_rows(way.book(), text), short)
            for end in range(0, len(text), 100):
                self.assertEqual(rows_fault(way.book(), text[:end]), end)
            self.assertEqual(rows_fault(way.book(), text + "x"), len(text))
            self.assertTrue(rows_go_on(way.book(), text[:-1]).startswith(text[:-1]))
        self.assertIsNone(rows_fault(TWINS, "[a] 1 on\n[b] 0 back\n" * 900 + "a\n"))

    def test_pictures(self):
        for way in great_ways():
            boxes = boxes_of(way)
            self.assertEqual(way_of_boxes(way.book(), way.word(), boxes[::-1]), leftmost(way))
            self.assertTrue(same_picture(way, leftmost(way)))
            for index in range(199):
                if is_apart(way, index):
                    self.assertTrue(is_apart(exchanged(way, index), index))

    def test_hangs_and_times(self):
        for way in great_ways():
            self.assertEqual(len(hangs(way)), 200)
            self.assertEqual(len(earliest(way)), len(latest(way)))
            self.assertEqual(sum(len(lot) for lot in at_once(way)), 200)
            self.assertEqual(reordered(way, list(range(200))), way)

    def test_orders_of_twelve_steps(self):
        ways = [Way(DOUBLES, "x" * 12, [(2 * k, 0, "on") for k in range(12)]),
                Way(DOUBLES, "x", [(k, 0, "on") for k in range(12)]), Way(DOUBLES, "x", [(0, 0, "on")] * 12),
                long_way(GREAT, "xyz" * 10, 12), long_way(HALVES, "x" * 10, 12), long_way(TWINS, "ab" * 5, 12)]
        for way in ways:
            many = orders_count(way)
            for number in sorted({0, many // 3, many // 2, many - 1}):
                order = order_at(way, number)
                self.assertEqual(order_number(way, order), number)
                self.assertTrue(same_picture(reordered(way, order), way))


if __name__ == "__main__":
    unittest.main()
