"""[2], [3]: what holds for all of the interface that has landed."""

import copy
import importlib
import random
import unittest

from tests.helpers import DOUBLES, HALVES, RING, as_lists, as_tuples, lists_within, parameters, raised, random_round
from tests.helpers import sample_ways
from waysback.books import Book
from waysback.errors import WayError
from waysback.goings import put_beside
from waysback.halves import halves
from waysback.idles import bare
from waysback.papers import alike_paper, carrying_paper, merge_paper, middle_paper, odds_paper, parted_paper
from waysback.papers import rings_paper, root_paper
from waysback.rounds import carried, power
from waysback.sessions import Session
from waysback.sessiontexts import write_session
from waysback.ways import Way

INTERFACE = {
    "words": {"is_word": "thing", "is_step": "thing"},
    "goings": {
        "steps_at": "book word", "done": "book word step", "turned_back": "way", "put_behind": "way other",
        "put_beside": "way other", "cut_at": "way index",
    },
    "wiring": {
        "wires": "way", "wire_rows": "way", "comes_from": "way index place", "goes_to": "way index place",
    },
    "booktexts": {"book_text": "book", "read_book": "text", "book_fault": "text", "book_goes_on": "text"},
    "waytexts": {
        "way_text": "way", "read_way": "book text", "way_fault": "book text", "way_goes_on": "book text",
    },
    "rowtexts": {
        "rows_text": "way", "read_rows": "book text", "rows_fault": "book text", "rows_go_on": "book text",
    },
    "exchanges": {"is_apart": "way index", "exchanged": "way index"},
    "pictures": {
        "boxes_of": "way", "leftmost": "way", "same_picture": "way other", "way_of_boxes": "book word boxes",
    },
    "hangings": {
        "hangs": "way", "orders_count": "way", "order_at": "way number", "order_number": "way order",
        "reordered": "way order",
    },
    "oncetimes": {"earliest": "way", "latest": "way", "at_once": "way"},
    "pieces": {"pieces_beside": "way", "pieces_below": "way"},
    "idles": {"idle_pairs": "way", "struck": "way pair", "bare": "way", "is_bare": "way"},
    "likeness": {"alike": "way other", "distance": "way other", "fewest": "way"},
    "moves": {"moved": "way move", "moves": "way other", "moves_wrong": "way other thing"},
    "unlikes": {"unlike_paper": "way other", "unlike_wrong": "way other thing"},
    "beginnings": {
        "is_beginning": "way other", "common": "way other", "beginnings_count": "way", "beginning_at": "way number",
    },
    "events": {"events": "way", "at_odds": "way other", "way_of_events": "book word given"},
    "joins": {"joined": "way other"},
    "middles": {"middle": "way other third", "is_between": "way other third", "between_count": "way other"},
    "merges": {"merged": "base lines", "struck_out": "way index"},
    "walls": {"has_wall": "way other", "walls_between": "way other", "wall_from": "way other"},
    "rounds": {
        "is_round": "thing", "no_steps": "book word", "carried": "way other", "power": "way number",
        "power_steps": "way number",
    },
    "sayings": {"value": "rounds saying", "holds": "rounds saying second", "words_for": "rounds other most"},
    "straights": {"strip_pairs": "way", "is_straight": "way", "straight": "way", "fewest_carried": "way"},
    "rings": {"ring": "way", "same_parts": "way other"},
    "carrying": {"conjugate": "way other", "carrying_wrong": "way other thing"},
    "roots": {"root": "way", "nth_root": "way number"},
    "commuting": {
        "commute": "way other", "commuting": "way", "commuting_form": "way other", "of_form": "way form",
        "common_power": "way other",
    },
    "lots": {"lot": "book word most", "squares": "book word most", "cubes": "book word most"},
    "loops": {
        "loops": "book word most", "loop_round": "book word number most", "spelled": "way most",
        "round_of": "book word spelling most", "square_roads": "book word most",
    },
    "counts": {"counts": "way most", "rank": "book word most", "round_with": "book word numbers most"},
    "halves": {
        "halving": "", "trees": "way", "halves": "way", "way_of_halves": "table", "map_value": "way point",
    },
    "movetexts": {
        "moves_text": "way moves", "read_moves": "way text", "moves_fault": "way text", "moves_go_on": "way text",
    },
    "audits": {
        "audit_alike": "book way other moves", "audit_unlike": "book way other first second",
        "audit_merge": "book base line other way", "audit_odds": "book base line other first second",
        "audit_middle": "book way other third inner",
    },
    "roundaudits": {
        "audit_carrying": "book way other carrier moves", "audit_rings": "book way other first second",
        "audit_root": "book way root number carrier",
    },
    "papers": {
        "alike_paper": "way other", "parted_paper": "way other", "merge_paper": "base line other",
        "odds_paper": "base line other", "middle_paper": "way other third", "carrying_paper": "way other",
        "rings_paper": "way other", "root_paper": "way",
    },
    "sessiontexts": {
        "write_session": "session", "read_session": "text", "session_fault": "text", "session_goes_on": "text",
    },
}
CLASSES = {
    ("books", "Book"): ("rules", {"rules": "", "__eq__": "other"}),
    ("ways", "Way"): (
        "book word steps",
        {"book": "", "word": "", "steps": "", "end": "", "words": "", "__eq__": "other"},
    ),
    ("sessions", "Session"): (
        "book word",
        {
            "book": "", "word": "", "hands": "", "line": "who", "base": "hand", "watched": "", "do": "deed",
            "is_question": "thing", "answer": "question", "would": "deed", "count": "", "deeds": "", "undo": "",
            "again": "", "at": "number", "copy": "", "trial": "work", "__eq__": "other",
        },
    ),
}
WAY = Way(DOUBLES, "xx", [(0, 0, "on"), (2, 0, "on"), (0, 0, "back")])
OTHER = Way(DOUBLES, "xx", [(1, 0, "on"), (0, 0, "on"), (1, 0, "on"), (1, 0, "back")])
EVENT = Way(DOUBLES, "xx", [(0, 0, "on"), (0, 0, "on")])
ROUND = Way(DOUBLES, "x", [(0, 0, "on"), (0, 0, "on"), (1, 0, "back"), (0, 0, "back")])
# A round of several parts and words, another one to which it is carried, one that commutes with it.
TURN = Way(RING, "a", [(0, 0, "on"), (0, 1, "on"), (0, 2, "on")])
TURNS = put_beside(put_beside(power(TURN, 2), Way(RING, "b", [])), power(TURN, 4))
CARRIER = Way(RING, "aba", [(2, 2, "back"), (0, 0, "on")])
AROUND = carried(TURNS, CARRIER)
TURNED = put_beside(put_beside(power(TURN, -1), Way(RING, "b", [])), power(TURN, -2))
HALVED = Way(HALVES, "xx", [(0, 0, "back"), (1, 0, "back"), (2, 0, "on")])
LOT_CALLS = ["lot", "squares", "cubes", "loops", "loop_round", "round_of", "square_roads", "rank", "round_with"]
SESSION = Session(DOUBLES, "xx")
for deed in (("come", "ann"), ("step", "ann", (0, 0, "on")), ("hold", ("middle", "ann", "ann", "all"))):
    SESSION.do(deed)
SESSION_TEXT = write_session(SESSION)
ODDS = Book([("a", "b"), ("a", "c")])
PAPERS = {
    "audit_alike": alike_paper(WAY, bare(WAY)), "audit_unlike": parted_paper(WAY, OTHER),
    "audit_merge": merge_paper(WAY, EVENT, WAY),
    "audit_odds": odds_paper(Way(ODDS, "a", []), Way(ODDS, "a", [(0, 0, "on")]), Way(ODDS, "a", [(0, 1, "on")])),
    "audit_middle": middle_paper(WAY, OTHER, EVENT), "audit_carrying": carrying_paper(TURNS, AROUND),
    "audit_rings": rings_paper(TURNS, TURNED), "audit_root": root_paper(TURNS),
}
# The texts by which each audit is asked, by its parameters.
TEXTS = {
    name: dict(zip({**INTERFACE["audits"], **INTERFACE["roundaudits"]}[name].split(), paper)) for name, paper in PAPERS.items()
}
RIGHT = {
    "thing": (0, 0, "on"), "book": DOUBLES, "word": "xx", "step": (0, 0, "on"), "way": WAY, "other": OTHER,
    "index": 0, "place": 1, "number": 1, "order": [0, 2, 1], "boxes": [(0, "on", [0], [2, 3])], "pair": (0, 1),
    "move": ("put", 1, (0, 0, "on")), "third": EVENT, "given": [EVENT, Way(DOUBLES, "xx", [(0, 0, "on")])],
    "base": WAY, "line": EVENT, "lines": [WAY, OTHER], "rounds": [ROUND, Way(DOUBLES, "x", [])], "most": 2,
    "form": [3, random_round(random.Random(7), RING, "b", 3), -2], "spelling": [(0, "on"), (2, "back"), (2, "on")],
    "numbers": [("", 0, "a", 1), ("", 1, "a", 1), ("", 2, "a", 1)], "table": halves(HALVED), "point": (1, "0110"), "session": SESSION,
    "saying": ("behind", ("back", 0), ("times", 1, 3)), "second": ("around", 0, ("none",)),
}
# What stands for a parameter other than RIGHT tells, by function.
SPECIAL = {
    ("put_behind", "other"): Way(DOUBLES, "xxx", [(1, 0, "back")]),
    ("put_beside", "other"): Way(DOUBLES, "x", [(0, 0, "on")]),
    ("struck", "way"): Way(DOUBLES, "xx", [(1, 0, "on"), (1, 0, "back"), (0, 0, "on")]),
    ("moves_wrong", "thing"): [("exchange", 0), ("put", 3, (0, 0, "back"))],
    ("unlike_wrong", "thing"): ([("exchange", 0)], [("strike", 2)]),
    ("has_wall", "way"): EVENT, ("wall_from", "way"): EVENT,
    ("power", "way"): ROUND, ("power_steps", "way"): ROUND,
    ("carried", "way"): ROUND, ("carried", "other"): Way(DOUBLES, "x", [(0, 0, "on")]),
    ("words_for", "other"): ROUND,
    **{(name, "way"): ROUND for name in ("strip_pairs", "is_straight", "straight", "fewest_carried")},
    ("read_book", "text"): "rule a to b\n", ("book_fault", "text"): "rule", ("book_goes_on", "text"): "rule",
    ("read_way", "text"): "word x\n0 0 on\n", ("way_fault", "text"): "word x\n1", ("way_goes_on", "text"): "word x\n0",
    ("read_rows", "text"): "[x] 0 on\nxx\n", ("rows_fault", "text"): "[x", ("rows_go_on", "text"): "[x",
    **{(name, "way"): TURNS for name in ("ring", "same_parts", "conjugate", "carrying_wrong", "root", "nth_root")},
    **{(name, "way"): TURNS for name in ("commute", "commuting", "commuting_form", "of_form", "common_power")},
    **{(name, "way"): TURNS for name in ("carrying_paper", "rings_paper", "root_paper")},
    **{(name, "other"): AROUND for name in ("same_parts", "conjugate", "carrying_wrong", "carrying_paper")},
    **{(name, "other"): TURNED for name in ("commute", "commuting_form", "common_power", "rings_paper")},
    ("carrying_wrong", "thing"): CARRIER, ("nth_root", "number"): 2,
    **{(name, "book"): RING for name in LOT_CALLS}, **{(name, "word"): "ab" for name in LOT_CALLS},
    **{(name, "most"): 9 for name in LOT_CALLS}, **{(name, "most"): 27 for name in ("spelled", "counts")},
    ("spelled", "way"): TURNS, ("counts", "way"): TURNS,
    **{(name, "way"): HALVED for name in ("trees", "halves", "map_value")},
    ("moves_text", "moves"): [("exchange", 0), ("put", 1, (0, 0, "on"))], ("read_moves", "text"): "exchange 0\nput 1 0 0 on\n",
    ("moves_fault", "text"): "put 1 0 0", ("moves_go_on", "text"): "put 1 0 0",
    **{(name, one): text for name, texts in TEXTS.items() for one, text in texts.items()},
    ("read_session", "text"): SESSION_TEXT, ("session_fault", "text"): SESSION_TEXT[:-1],
    ("session_goes_on", "text"): SESSION_TEXT[:-1],
}


def all_calls():
    """Each function of the interface, its name and right values for its parameters."""
    for module, functions in INTERFACE.items():
        for name, listed in functions.items():
            call = getattr(importlib.import_module(f"waysback.{module}"), name)
            yield name, call, {one: SPECIAL.get((name, one), RIGHT.get(one)) for one in listed.split()}


class InterfaceTest(unittest.TestCase):
    def test_names_parameters_and_files(self):
        for module, functions in INTERFACE.items():
            loaded = importlib.import_module(f"waysback.{module}")
            for name, listed in functions.items():
                self.assertEqual(parameters(getattr(loaded, name)), listed.split())
                self.assertEqual(getattr(loaded, name).__module__, f"waysback.{module}")

    def test_classes_define_their_methods_themselves(self):
        for (module, name), (listed, methods) in CLASSES.items():
            made = getattr(importlib.import_module(f"waysback.{module}"), name)
            self.assertEqual(made.__module__, f"waysback.{module}")
            self.assertEqual(parameters(made), listed.split())
            for method, given in methods.items():
                self.assertEqual(parameters(vars(made)[method]), given.split())

    def test_by_place_and_by_name_alike(self):
        for name, call, given in all_calls():
            by_place = call(*given.values())
            self.assertEqual(call(**dict(reversed(given.items()))), by_place, name)

    def test_lists_and_tuples_alike(self):
        for name, call, given in all_calls():
            told = call(**given)
            for change in (as_lists, as_tuples):
                self.assertEqual(call(**{one: change(thing) for one, thing in given.items()}), told, name)

    def test_told_lists_are_new_and_may_be_changed(self):
        for name, call, given in all_calls():
            told = call(**given)
            kept = told if isinstance(told, (Book, Way)) else copy.deepcopy(told)
            found = lists_within(told)
            self.assertEqual(len(found), len({id(thing) for thing in found}), name)
            for thing in found:
                thing.append(None)
                thing.reverse()
            self.assertEqual(call(**given), kept, name)

    def test_what_is_passed_is_never_changed(self):
        for name, call, given in all_calls():
            rows = {one: as_lists(thing) for one, thing in given.items()}
            kept = copy.deepcopy({one: thing for one, thing in rows.items() if isinstance(thing, list)})
            call(**rows)
            self.assertEqual({one: rows[one] for one in kept}, kept, name)

    def test_the_earlier_parameters_error_whatever_stands_for_the_later(self):
        for name, call, given in all_calls():
            named = list(given)
            if not named or named[0] in ("thing", "text") or name.startswith("audit"):
                continue
            if named[-1] == "most" and named[:2] == ["book", "word"]:
                # What is wrong in most goes ahead of all but the book and the word.
                named.insert(2, named.pop())
                given = {one: given[one] for one in named}
            wrong = {one: None for one in named}
            first = type(raised(call, **{**wrong, named[0]: 5}))
            self.assertTrue(issubclass(first, WayError), name)
            for many in range(len(named)):
                mixed = {one: given[one] if at < many else None for at, one in enumerate(named)}
                alone = {one: None if at == many else given[one] for at, one in enumerate(named)}
                if named[many] == "thing" or named[many] == "text" and name.endswith(("fault", "on")):
                    continue
                self.assertIs(type(raised(call, **mixed)), type(raised(call, **alone)), name)
                self.assertIsNotNone(raised(call, **alone), name)

    def test_true_and_false_are_no_integers(self):
        for name, call, given in all_calls():
            for one in {"index", "place", "number", "most"} & set(given):
                if name.startswith("audit"):
                    continue
                for truth in (True, False):
                    self.assertIsInstance(raised(call, **{**given, one: truth}), WayError)

    def test_what_was_told_stays_when_more_is_told(self):
        for way in sample_ways():
            text = repr((way.book().rules(), way.word(), way.steps(), way.words()))
            for name, call, given in all_calls():
                if list(given) == ["way"]:
                    raised(call, way)
            self.assertEqual(repr((way.book().rules(), way.word(), way.steps(), way.words())), text)

    def test_callers_may_keep_no_hold_on_a_books_rules(self):
        rules = [["xx", "x"]]
        book = Book(rules)
        way = Way(book, "xx", [])
        rules[0][0] = "a"
        way.book().rules().append(("a", "b"))
        self.assertEqual((book, way.book()), (HALVES, HALVES))


if __name__ == "__main__":
    unittest.main()
