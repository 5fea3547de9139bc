"""[58], [64], [71], [75], [80], [89]: what is as great as the limits let it be, answered promptly."""

import random
import time
import unittest

from tests.helpers import DOUBLES, GREAT, HALVES, TWINS, long_way, raised, random_way
from tests.test_limits import ALIKE, SECONDS, great_round, great_ways
from tests.test_rings import SAME, beside
from tests.test_rounds import A, belt, double_belt
from waysback.audits import audit_alike, audit_merge, audit_middle, audit_odds, audit_unlike
from waysback.books import Book
from waysback.carrying import carrying_wrong, conjugate
from waysback.commuting import common_power, commute, commuting, commuting_form, of_form
from waysback.counts import counts, rank, round_with
from waysback.errors import TooFar
from waysback.goings import cut_at, put_behind, steps_at, turned_back
from waysback.halves import halves, map_value, trees, way_of_halves
from waysback.idles import bare
from waysback.likeness import fewest
from waysback.loops import loop_round, loops, round_of, spelled, square_roads
from waysback.lots import cubes, lot, squares
from waysback.moves import moves
from waysback.movetexts import moves_fault, moves_go_on, moves_text, read_moves
from waysback.papers import alike_paper, carrying_paper, merge_paper, middle_paper, odds_paper, parted_paper
from waysback.papers import rings_paper, root_paper
from waysback.rings import ring, same_parts
from waysback.roots import nth_root, root
from waysback.roundaudits import audit_carrying, audit_rings, audit_root
from waysback.rounds import carried, no_steps, power
from waysback.sessions import Session
from waysback.sessiontexts import read_session, session_fault, session_goes_on, write_session
from waysback.straights import straight
from waysback.ways import Way

LETTERS = "abcdefghijklmnopqrst"
WIDE = Book([("x" * 10, "x" * 10)] * 20)


def great_rounds():
    """Rounds of up to a hundred steps from words of up to twenty letters."""
    return [great_round(seed) for seed in range(4)] + [
        belt(9, 18), double_belt(6, 18), double_belt(9, 18), power(A, 49), Way(SAME, "x", [(0, 0, "on")] * 100),
        Way(SAME, "x" * 20, [(at % 20, 0, "on") for at in range(100)]), Way(WIDE, "x" * 20, [(at % 3 * 5, 0, "on") for at in range(99)]),
        Way(WIDE, "x" * 20, [(at * 5 % 11, at * 7 % 20, "on") for at in range(100)]),
        beside(power(A, 9), no_steps(HALVES, "x" * 10), power(A, 15), power(A, -12)),
    ]


def great_lots():
    """Pairs of a book and a word whose lots have up to two hundred words."""
    return [
        (Book([(LETTERS[at], LETTERS[(at + 1) % 14]) for at in range(14)]), "aa"),
        (Book([(LETTERS[at], LETTERS[(at + 1) % 14]) for at in range(14)]), "a" + "x" * 29 + "a" + "x" * 29),
        (Book([("ab", "ba")]), "a" * 18 + "bb"), (Book([("ab", "ba"), ("a", "a")]), "a" * 39 + "b"), (TWINS, "a" * 7),
        (Book([("a" * size, "a" * size) for size in range(1, 5)]), "a" * 60), (Book([("ab", "c"), ("c", "ba"), ("a", "d")]), "ababab"[:5]),
    ]


class LimitsTest(unittest.TestCase):
    def setUp(self):
        self.started = time.perf_counter()

    def tearDown(self):
        self.assertLess(time.perf_counter() - self.started, SECONDS)

    def test_rings_and_carrying(self):
        for way in great_rounds():
            ring(straight(way)[1])
            other = carried(way, long_way(way.book(), way.word(), 30, 60, 5))
            self.assertTrue(same_parts(way, other))
            told = conjugate(way, other)
            if told[0] == "way":
                self.assertIsNone(carrying_wrong(way, other, told[1]))
            else:
                self.assertEqual(told[0], "words")

    def test_roots_and_what_commutes(self):
        for way in great_rounds():
            way = carried(way, long_way(way.book(), way.word(), 10, 40, 6))
            told, number = root(way)
            self.assertEqual(power(told, number), bare(way))
            self.assertEqual(nth_root(way, max(1, number)), told)
            self.assertIsNone(nth_root(way, 999999999))
            self.assertTrue(commute(way, told))
            form = commuting_form(way, told)
            self.assertEqual(of_form(way, form), told)
            self.assertEqual(common_power(way, told), (1, number))

    def test_forms_of_a_hundred(self):
        way = beside(A, no_steps(HALVES, "x"), power(A, 2))
        word = commuting(way)[1][1][1]
        for number in (100, -100):
            told = of_form(way, [number, no_steps(HALVES, word), -number])
            self.assertEqual(commuting_form(way, told), [number, no_steps(HALVES, word), -number])
        for number in (97, 100):
            self.assertEqual(root(power(A, number)), (A, number))
            self.assertEqual(common_power(power(A, 100), power(A, number)), (97, 100) if number == 97 else (1, 1))

    def test_lots_squares_and_cubes(self):
        for book, word in great_lots():
            words = lot(book, word, 200)
            told = cubes(book, word, 200)
            self.assertEqual((told[0], told[2] if len(told) > 2 else 0), (len(words), len(squares(book, word, 200))))
            self.assertEqual(len(square_roads(book, word, 200)), len(squares(book, word, 200)))
        twenty = Book([("a", "a")] * 20)
        self.assertEqual(cubes(twenty, "a" * 60, 1)[-1], 20 ** 60)
        for book in (GREAT, ALIKE, HALVES):
            for word in ("a" * 60, "x" * 60, ("xy" * 5 + "z") * 5):
                error = raised(lot, book, word, 200)
                self.assertTrue(error is None or type(error) is TooFar)

    def test_loops_and_spellings(self):
        for book, word in great_lots():
            many = len(loops(book, word, 200))
            for number in range(0, many, max(1, many // 8)):
                way = loop_round(book, word, number, 200)
                self.assertEqual(spelled(way, 200), [(number, "on")])
            if many:
                way = round_of(book, word, [(number % many, "on") for number in range(0, 700, 7)], 200)
                self.assertEqual(round_of(book, word, spelled(way, 200), 200), way)

    def test_counts_and_ranks(self):
        for book, word in great_lots():
            way = long_way(book, word, 200, 400, 8)
            self.assertEqual(counts(way, 200), counts(bare(way), 200))
            self.assertGreaterEqual(len(loops(book, word, 200)), rank(book, word, 200))

    def test_rounds_with_numbers_to_a_hundred(self):
        rng = random.Random(390)
        for book, word in (
            (Book([("a", "b")] * 20), "aaaaa"), (Book([("ab", "ba"), ("a", "a")]), "a" * 39 + "b"), (TWINS, "a" * 5),
            (Book([(LETTERS[at], LETTERS[(at + 1) % 6]) for at in range(6)]), "aa"),
        ):
            many = len(loops(book, word, 40))
            table = {}
            for number in rng.sample(range(many), min(many, 40)):
                times = rng.choice([-100, 100])
                for row in counts(loop_round(book, word, number, 40), 40):
                    table[row[:3]] = table.get(row[:3], 0) + times * row[3]
            rows = [(*kind, number) for kind, number in table.items()]
            self.assertEqual(counts(round_with(book, word, rows, 40), 40), sorted(row for row in rows if row[3]))

    def test_halves(self):
        for seed in range(8):
            way = long_way(HALVES, "x" * (1 + 2 * seed), 60, 30, seed)
            table = halves(way)
            self.assertEqual(way_of_halves(table), bare(way))
            self.assertEqual([len(forest) for forest in trees(way)], [len(way.word()), len(way.end())])
            for letter in range(len(way.word())):
                self.assertEqual(map_value(turned_back(way), map_value(way, (letter, "01" * 30))), (letter, "01" * 30))
        deep = Way(HALVES, "x", [(0, 0, "back")] * 60 + [(at, 0, "on") for at in reversed(range(60))])
        self.assertEqual(way_of_halves(halves(deep)), bare(deep))

    def test_texts_of_moves(self):
        for way in great_ways():
            way = cut_at(way, 100)[0]
            told = moves(way, bare(way))
            text = moves_text(way, told)
            self.assertEqual(read_moves(way, text), told)
            for end in range(0, min(len(text), 3000), 100):
                self.assertIn(moves_fault(way, text[:end]), (None, end))
            self.assertTrue(moves_go_on(way, text + "p").startswith(text + "p"))
            self.assertEqual(moves_fault(way, text + "put 101"), len(text) + 6)
        way = Way(DOUBLES, "xx", [(0, 0, "on"), (2, 0, "on")])
        self.assertIsNone(moves_fault(way, "exchange 0\n" * 1800))

    def test_papers_of_ways(self):
        for way in great_ways():
            way = cut_at(way, 100)[0]
            half = cut_at(way, 50)[0]
            other = put_behind(half, random_way(random.Random(1), way.book(), half.end(), 50, 400))
            self.assertIsNone(audit_alike(*alike_paper(way, bare(way))))
            paper = parted_paper(way, other)
            self.assertIsNone(audit_unlike(*paper) if paper else audit_alike(*alike_paper(way, other)))
            paper = merge_paper(half, way, other)
            self.assertIsNone(audit_merge(*paper) if paper else audit_odds(*odds_paper(half, way, other)))
            self.assertIsNone(audit_middle(*middle_paper(way, other, half)))

    def test_papers_of_rounds(self):
        for way in great_rounds():
            other = carried(way, long_way(way.book(), way.word(), 20, 60, 5))
            paper = carrying_paper(way, other)
            if paper is not None:
                self.assertIsNone(audit_carrying(*paper))
            self.assertIsNone(rings_paper(way, other))
            self.assertIsNone(audit_rings(*rings_paper(way, power(other, 2))))
            if fewest(way):
                self.assertIsNone(audit_root(*root_paper(way)))

    def test_long_texts(self):
        for text in ("word " + "x" * 19990 + "\n", "9" * 20000, "exchange 0\n" * 1800, "rule a to b\n" * 1600, "word x\n" + "0 0 back\n" * 300):
            for audit, many in ((audit_alike, 4), (audit_odds, 6), (audit_carrying, 5), (audit_root, 5)):
                self.assertIsNotNone(audit(*[text] * many))
                self.assertIsNotNone(audit("rule xx to x\n", *[text] * (many - 1)))

    def test_sessions(self):
        for seed, (book, word) in enumerate(((HALVES, "x" * 20), (TWINS, "ab" * 10), (DOUBLES, "x" * 20))):
            rng = random.Random(seed)
            session = Session(book, word)
            names = ["ann", "bob", "cid", "dan", "eve", "fay"]
            for name in names:
                session.do(("come", name))
            for question in (("fits", "ann"), ("root", "bob"), ("root", "all"), ("commute", "cid", "dan"), ("middle", "eve", "fay", "all"),
                             ("far", "ann", "bob"), ("end", "all"), ("alike", "cid", "fay")):
                session.do(("watch", question))
            for _ in range(200):
                name = rng.choice(names)
                line = session.line(name)
                near = [step for step in steps_at(book, line.end()) if len(line.end()) < 40 or step[2] == "on"]
                kind = rng.choice(["step"] * 8 + ["give", "take"])
                deed = ("step", name, rng.choice(near)) if kind == "step" and len(line.steps()) < 30 else (kind.replace("step", "drop"), name)
                raised(session.would, deed)
                raised(session.do, deed)
            text = write_session(session)
            self.assertEqual(read_session(text), session)
            for end in range(0, len(text), 50):
                self.assertIn(session_fault(text[:end]), (None, end))
                self.assertTrue(session_goes_on(text[:end]).startswith(text[:end]))
            while session.undo() is not None:
                session.copy()
            while session.again() is not None:
                session.at(session.count() // 2)

    def test_sessions_whose_lines_are_rounds(self):
        session = Session(HALVES, "x")
        for name, number in (("ann", 14), ("bob", 10), ("cid", -12)):
            session.do(("come", name))
            for step in power(A, number).steps():
                session.do(("step", name, step))
            session.do(("hold", ("root", name)))
            session.do(("hold", ("commute", name, "ann")))
        self.assertEqual([row[1] for row in session.watched()], [14, True, 10, True, 12, True])

        def work(one):
            one.do(("watch", ("end", "all")) if one.count() % 2 else ("come", f"z{one.count()}"))
            return raised(one.trial, work) if one.count() < 95 else None
        self.assertIsNone(session.trial(work))


if __name__ == "__main__":
    unittest.main()
