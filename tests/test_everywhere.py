"""[2], [3]: what holds for all of the interface that has landed."""

import copy
import importlib
import unittest

from tests.helpers import DOUBLES, HALVES, as_lists, as_tuples, lists_within, parameters, raised, sample_ways
from waysback.books import Book
from waysback.errors import WayError
from waysback.ways import Way

INTERFACE = {
    "words": {"is_word": "thing", "is_step": "thing"},
    "goings": {
        "steps_at": "book word", "done": "book word step", "turned_back": "way", "put_behind": "way other",
        "put_beside": "way other", "cut_at": "way index",
    },
    "wiring": {
        "wires": "way", "wire_rows": "way", "comes_from": "way index place", "goes_to": "way index place",
    },
    "booktexts": {"book_text": "book", "read_book": "text", "book_fault": "text", "book_goes_on": "text"},
    "waytexts": {
        "way_text": "way", "read_way": "book text", "way_fault": "book text", "way_goes_on": "book text",
    },
    "rowtexts": {
        "rows_text": "way", "read_rows": "book text", "rows_fault": "book text", "rows_go_on": "book text",
    },
    "exchanges": {"is_apart": "way index", "exchanged": "way index"},
    "pictures": {
        "boxes_of": "way", "leftmost": "way", "same_picture": "way other", "way_of_boxes": "book word boxes",
    },
    "hangings": {
        "hangs": "way", "orders_count": "way", "order_at": "way number", "order_number": "way order",
        "reordered": "way order",
    },
    "oncetimes": {"earliest": "way", "latest": "way", "at_once": "way"},
    "pieces": {"pieces_beside": "way", "pieces_below": "way"},
    "idles": {"idle_pairs": "way", "struck": "way pair", "bare": "way", "is_bare": "way"},
    "likeness": {"alike": "way other", "distance": "way other", "fewest": "way"},
    "moves": {"moved": "way move", "moves": "way other", "moves_wrong": "way other thing"},
    "unlikes": {"unlike_paper": "way other", "unlike_wrong": "way other thing"},
    "beginnings": {
        "is_beginning": "way other", "common": "way other", "beginnings_count": "way", "beginning_at": "way number",
    },
    "events": {"events": "way", "at_odds": "way other", "way_of_events": "book word given"},
    "joins": {"joined": "way other"},
    "middles": {"middle": "way other third", "is_between": "way other third", "between_count": "way other"},
    "merges": {"merged": "base lines", "struck_out": "way index"},
    "walls": {"has_wall": "way other", "walls_between": "way other", "wall_from": "way other"},
    "rounds": {
        "is_round": "thing", "no_steps": "book word", "carried": "way other", "power": "way number",
        "power_steps": "way number",
    },
    "sayings": {"value": "rounds saying", "holds": "rounds saying second", "words_for": "rounds other most"},
    "straights": {"strip_pairs": "way", "is_straight": "way", "straight": "way", "fewest_carried": "way"},
}
CLASSES = {
    ("books", "Book"): ("rules", {"rules": "", "__eq__": "other"}),
    ("ways", "Way"): (
        "book word steps",
        {"book": "", "word": "", "steps": "", "end": "", "words": "", "__eq__": "other"},
    ),
}
WAY = Way(DOUBLES, "xx", [(0, 0, "on"), (2, 0, "on"), (0, 0, "back")])
OTHER = Way(DOUBLES, "xx", [(1, 0, "on"), (0, 0, "on"), (1, 0, "on"), (1, 0, "back")])
EVENT = Way(DOUBLES, "xx", [(0, 0, "on"), (0, 0, "on")])
ROUND = Way(DOUBLES, "x", [(0, 0, "on"), (0, 0, "on"), (1, 0, "back"), (0, 0, "back")])
RIGHT = {
    "thing": (0, 0, "on"), "book": DOUBLES, "word": "xx", "step": (0, 0, "on"), "way": WAY, "other": OTHER,
    "index": 0, "place": 1, "number": 1, "order": [0, 2, 1], "boxes": [(0, "on", [0], [2, 3])], "pair": (0, 1),
    "move": ("put", 1, (0, 0, "on")), "third": EVENT, "given": [EVENT, Way(DOUBLES, "xx", [(0, 0, "on")])],
    "base": WAY, "lines": [WAY, OTHER], "rounds": [ROUND, Way(DOUBLES, "x", [])], "most": 2,
    "saying": ("behind", ("back", 0), ("times", 1, 3)), "second": ("around", 0, ("none",)),
}
# What stands for a parameter other than RIGHT tells, by function.
SPECIAL = {
    ("put_behind", "other"): Way(DOUBLES, "xxx", [(1, 0, "back")]),
    ("put_beside", "other"): Way(DOUBLES, "x", [(0, 0, "on")]),
    ("struck", "way"): Way(DOUBLES, "xx", [(1, 0, "on"), (1, 0, "back"), (0, 0, "on")]),
    ("moves_wrong", "thing"): [("exchange", 0), ("put", 3, (0, 0, "back"))],
    ("unlike_wrong", "thing"): ([("exchange", 0)], [("strike", 2)]),
    ("has_wall", "way"): EVENT, ("wall_from", "way"): EVENT,
    ("power", "way"): ROUND, ("power_steps", "way"): ROUND,
    ("carried", "way"): ROUND, ("carried", "other"): Way(DOUBLES, "x", [(0, 0, "on")]),
    ("words_for", "other"): ROUND,
    **{(name, "way"): ROUND for name in ("strip_pairs", "is_straight", "straight", "fewest_carried")},
    ("read_book", "text"): "rule a to b\n", ("book_fault", "text"): "rule", ("book_goes_on", "text"): "rule",
    ("read_way", "text"): "word x\n0 0 on\n", ("way_fault", "text"): "word x\n1", ("way_goes_on", "text"): "word x\n0",
    ("read_rows", "text"): "[x] 0 on\nxx\n", ("rows_fault", "text"): "[x", ("rows_go_on", "text"): "[x",
}


def all_calls():
    """Each function of the interface, its name and right values for its parameters."""
    for module, functions in INTERFACE.items():
        for name, listed in functions.items():
            call = getattr(importlib.import_module(f"waysback.{module}"), name)
            yield name, call, {one: SPECIAL.get((name, one), RIGHT.get(one)) for one in listed.split()}


class InterfaceTest(unittest.TestCase):
    def test_names_parameters_and_files(self):
        for module, functions in INTERFACE.items():
            loaded = importlib.import_module(f"waysback.{module}")
            for name, listed in functions.items():
                self.assertEqual(parameters(getattr(loaded, name)), listed.split())
                self.assertEqual(getattr(loaded, name).__module__, f"waysback.{module}")

    def test_classes_define_their_methods_themselves(self):
        for (module, name), (listed, methods) in CLASSES.items():
            made = getattr(importlib.import_module(f"waysback.{module}"), name)
            self.assertEqual(made.__module__, f"waysback.{module}")
            self.assertEqual(parameters(made), listed.split())
            for method, given in methods.items():
                self.assertEqual(parameters(vars(made)[method]), given.split())

    def test_by_place_and_by_name_alike(self):
        for name, call, given in all_calls():
            by_place = call(*given.values())
            self.assertEqual(call(**dict(reversed(given.items()))), by_place, name)

    def test_lists_and_tuples_alike(self):
        for name, call, given in all_calls():
            told = call(**given)
            for change in (as_lists, as_tuples):
                self.assertEqual(call(**{one: change(thing) for one, thing in given.items()}), told, name)

    def test_told_lists_are_new_and_may_be_changed(self):
        for name, call, given in all_calls():
            told = call(**given)
            kept = told if isinstance(told, (Book, Way)) else copy.deepcopy(told)
            found = lists_within(told)
            self.assertEqual(len(found), len({id(thing) for thing in found}), name)
            for thing in found:
                thing.append(None)
                thing.reverse()
            self.assertEqual(call(**given), kept, name)

    def test_what_is_passed_is_never_changed(self):
        for name, call, given in all_calls():
            rows = {one: as_lists(thing) for one, thing in given.items()}
            kept = copy.deepcopy({one: thing for one, thing in rows.items() if isinstance(thing, list)})
            call(**rows)
            self.assertEqual({one: rows[one] for one in kept}, kept, name)

    def test_the_earlier_parameters_error_whatever_stands_for_the_later(self):
        for name, call, given in all_calls():
            named = list(given)
            if named[0] in ("thing", "text"):
                continue
            wrong = {one: None for one in named}
            first = type(raised(call, **{**wrong, named[0]: 5}))
            self.assertTrue(issubclass(first, WayError), name)
            for many in range(len(named)):
                mixed = {one: given[one] if at < many else None for at, one in enumerate(named)}
                alone = {one: None if at == many else given[one] for at, one in enumerate(named)}
                if named[many] == "thing" or named[many] == "text" and name.endswith(("fault", "on")):
                    continue
                self.assertIs(type(raised(call, **mixed)), type(raised(call, **alone)), name)
                self.assertIsNotNone(raised(call, **alone), name)

    def test_true_and_false_are_no_integers(self):
        for name, call, given in all_calls():
            for one in {"index", "place", "number"} & set(given):
                for truth in (True, False):
                    self.assertIsInstance(raised(call, **{**given, one: truth}), WayError)

    def test_what_was_told_stays_when_more_is_told(self):
        for way in sample_ways():
            text = repr((way.book().rules(), way.word(), way.steps(), way.words()))
            for name, call, given in all_calls():
                if list(given) == ["way"]:
                    raised(call, way)
            self.assertEqual(repr((way.book().rules(), way.word(), way.steps(), way.words())), text)

    def test_callers_may_keep_no_hold_on_a_books_rules(self):
        rules = [["xx", "x"]]
        book = Book(rules)
        way = Way(book, "xx", [])
        rules[0][0] = "a"
        way.book().rules().append(("a", "b"))
        self.assertEqual((book, way.book()), (HALVES, HALVES))


if __name__ == "__main__":
    unittest.main()
