"""[81] to [87], [89]: sessions of several hands."""

import copy
import itertools
import random
import unittest

from tests.helpers import DOUBLES, HALVES, OTHER_KINDS, SWAPS, TURNING, TWINS, anything, as_lists, lists_within, parameters
from tests.helpers import raised
from waysback.books import Book
from waysback.commuting import commute
from waysback.errors import BadBook, BadDeed, BadHand, BadQuestion, BadWord, InUse, IsWatched, NoCount, NotNow, NotWatched
from waysback.errors import WayError, WouldChange
from waysback.goings import put_behind, steps_at, turned_back
from waysback.idles import bare
from waysback.events import at_odds
from waysback.likeness import alike, distance
from waysback.merges import merged, struck_out
from waysback.middles import middle
from waysback.roots import root
from waysback.sessions import Session
from waysback.ways import Way

TWO = Book([("a", "b"), ("a", "c")])
NAMES = ["ann", "bob", "c3", "dan"]
KINDS = {"end": 1, "round": 1, "root": 1, "fits": 1, "alike": 2, "far": 2, "commute": 2, "middle": 3}


class Model:
    """What a session has, told anew by what the other modules tell."""

    def __init__(self, book, word):
        self.common = Way(book, word, [])
        self.hands = {}
        self.watched = {}

    def line(self, who):
        return self.common if who == "all" else self.hands[who][1]

    def merge(self, hand):
        base, line = self.hands[hand]
        return merged(base, [line, self.common])

    def answer(self, question):
        kind, *parts = question
        lines = [self.line(who) for who in parts]
        rounds = all(line.end() == line.word() for line in lines)
        return {
            "end": lambda: lines[0].end(), "round": lambda: rounds, "root": lambda: root(lines[0])[1] if rounds else None,
            "fits": lambda: self.merge(parts[0])[0] == "way", "alike": lambda: alike(*lines), "far": lambda: distance(*lines),
            "commute": lambda: commute(*lines) if rounds else None, "middle": lambda: middle(*lines).steps(),
        }[kind]()

    def can(self, deed):
        """None if the deed can be done, else what is told by the error, but for what is in use or held."""
        kind, one = deed[:2]
        if kind in ("watch", "hold", "free"):
            watched = one in self.watched
            refused = {"watch": watched, "hold": self.watched.get(one, False), "free": not watched}[kind]
            return one if refused else None
        if kind == "come":
            return ("hand", one) if one in self.hands else None
        if one not in self.hands:
            return ("none", one)
        line = self.line(one)
        if kind == "step" and deed[2] not in steps_at(line.book(), line.end()):
            return ("step", deed[2])
        if kind == "strike" and deed[2] >= len(line.steps()):
            return ("index", deed[2])
        if kind in ("take", "give") and self.merge(one)[0] == "odds":
            return ("odds",) + self.merge(one)[3:]
        return None

    def do(self, deed):
        kind, one = deed[:2]
        if kind in ("watch", "hold"):
            self.watched[one] = kind == "hold"
        elif kind == "free":
            del self.watched[one]
        elif kind == "come":
            self.hands[one] = (self.common, self.common)
        elif kind == "go":
            del self.hands[one]
        else:
            base, line = self.hands[one]
            if kind == "step":
                line = bare(Way(line.book(), line.word(), line.steps() + [deed[2]]))
            elif kind == "strike":
                line = struck_out(line, deed[2])[0]
            elif kind == "drop":
                line = base
            elif kind == "take":
                base, line = self.common, self.merge(one)[1]
            else:
                self.common = base = line = self.merge(one)[1]
            self.hands[one] = (base, line)

    def copy(self):
        told = Model(self.common.book(), self.common.word())
        told.common, told.hands, told.watched = self.common, dict(self.hands), dict(self.watched)
        return told


def drawn_deed(rng, session):
    """Some deed, most of them such as can be done."""
    kind = rng.choice("come go step step step step step strike drop take give give watch hold free".split())
    hands = session.hands()
    hand = rng.choice(hands if hands and rng.random() < 0.9 else NAMES)
    if kind == "come":
        return (kind, rng.choice(NAMES))
    if kind == "step":
        end = session.line(hand).end() if hand in hands else session.word()
        steps = steps_at(session.book(), end)
        small = [step for step in steps if len(end) < 9 or step[2] == "on"]
        return (kind, hand, rng.choice(small or steps or [(0, 0, "on")]) if rng.random() < 0.9 else (rng.randrange(9), 0, "back"))
    if kind == "strike":
        return (kind, hand, rng.randrange(5))
    if kind in ("watch", "hold", "free"):
        name = rng.choice(list(KINDS))
        who = hands + ["all"] if name != "fits" else hands or NAMES
        return (kind, (name, *[rng.choice(who) for _ in range(KINDS[name])]))
    return (kind, hand)


def seen_of(session):
    """All that is to be seen of a session."""
    return (
        session.book().rules(), session.word(), session.hands(), [session.line(who).steps() for who in session.hands() + ["all"]],
        [session.base(hand).steps() for hand in session.hands()], session.watched(), session.count(), session.deeds(),
    )


def played(book, word, *deeds):
    session = Session(book, word)
    for deed in deeds:
        session.do(deed)
    return session


def example():
    return played(TWO, "aa", ("come", "ann"), ("come", "bob"), ("step", "ann", (0, 0, "on")), ("step", "bob", (0, 1, "on")),
                  ("step", "bob", (1, 0, "on")))


class SessionTest(unittest.TestCase):
    def held(self, session, model):
        self.assertEqual(session.hands(), list(model.hands))
        self.assertEqual(session.line("all"), model.common)
        for hand, (base, line) in model.hands.items():
            self.assertEqual((session.base(hand), session.line(hand)), (base, line))
            self.assertEqual(bare(line), line)
        self.assertEqual(session.watched(), [(one, model.answer(one), each) for one, each in model.watched.items()])

    def test_anew(self):
        session = Session(word="aa", book=TWO)
        self.assertEqual((session.book(), session.word(), session.hands(), session.watched()), (TWO, "aa", [], []))
        self.assertEqual(session.line("all"), Way(TWO, "aa", []))
        self.assertEqual((session.count(), session.deeds(), session.undo(), session.again()), (0, [], None, None))

    def test_bad_book_then_bad_word(self):
        for thing in anything():
            if not isinstance(thing, Book):
                error = raised(Session, thing, None)
                self.assertIs(type(error), BadBook)
                self.assertIs(error.thing, thing)
            if thing not in ("", "ab"):
                error = raised(Session, TWO, thing)
                self.assertIs(type(error), BadWord)
                self.assertIs(error.thing, thing)

    def test_deeds_one_after_another(self):
        kinds = {}
        for seed, (book, word) in enumerate(itertools.product((TWO, TWINS, HALVES, SWAPS, TURNING), ("", "a", "ax", "xyaa"))):
            rng = random.Random(seed)
            session, model = Session(book, word), Model(book, word)
            for _ in range(60):
                deed = drawn_deed(rng, session)
                kinds[self.step(session, model, deed)] = True
                self.held(session, model)
        expected = {"done", "changed", NotNow, BadQuestion, IsWatched, NotWatched, InUse, WouldChange}
        self.assertEqual(set(kinds), expected)

    def step(self, session, model, deed):
        """Does a deed in both, looks at what is told, and tells what came of it."""
        before = seen_of(session)
        told, error = None, None
        ahead = model.copy()
        try:
            told = session.do(as_lists(deed) if session.count() % 2 else deed)
        except WayError as found:
            error = found
            self.assertEqual(seen_of(session), before)
        asked = deed[0] in ("watch", "hold", "free")
        if asked and not session.is_question(deed[1]):
            self.assertIs(type(error), BadQuestion)
            return BadQuestion
        why = model.can(deed)
        if why is not None:
            self.assertEqual(error.question if asked else error.why, why)
            self.assertIs(type(error), {"watch": IsWatched, "hold": IsWatched, "free": NotWatched}.get(deed[0], NotNow))
            return type(error)
        behind = model.copy()
        behind.do(deed)
        gone = [question for question in model.watched if deed[0] == "go" and deed[1] in question[1:]]
        if gone:
            self.assertEqual((type(error), error.question), (InUse, gone[0]))
            return InUse
        changed = [(one, ahead.answer(one), behind.answer(one)) for one in behind.watched if one in ahead.watched]
        changed = [row for row in changed if row[1] != row[2]]
        refused = [row for row in changed if model.watched.get(row[0]) and behind.watched.get(row[0])]
        if refused:
            question, first, second = refused[0]
            reason = (first, second)
            if question[0] == "fits" and first:
                reason = ("odds",) + behind.merge(question[1])[3:]
            self.assertEqual((type(error), error.question, error.why), (WouldChange, question, reason))
            return WouldChange
        self.assertIsNone(error)
        self.assertEqual(told, changed)
        model.do(deed)
        return "changed" if changed else "done"

    def test_the_example(self):
        session = example()
        self.assertEqual(session.do(("hold", ("fits", "bob"))), [])
        error = raised(session.do, ("give", "ann"))
        self.assertEqual((type(error), error.question, error.why), (WouldChange, ("fits", "bob"), ("odds", 0, 0)))
        self.assertEqual(session.would(("give", "ann")), [(("fits", "bob"), True, False)])
        session.do(("free", ("fits", "bob")))
        session.do(("give", "ann"))
        error = raised(session.do, ("give", "bob"))
        self.assertEqual((type(error), error.why), (NotNow, ("odds", 0, 0)))
        session.do(("strike", "bob", 0))
        self.assertEqual(session.line("bob").steps(), [(1, 0, "on")])
        session.do(("give", "bob"))
        self.assertEqual(session.line("all").steps(), [(0, 0, "on"), (1, 0, "on")])
        self.assertEqual(session.answer(("far", "ann", "all")), 1)

    def test_ways_told_stay_as_they_are(self):
        session = example()
        told = [session.line("ann"), session.base("ann"), session.line("all")]
        kept = [Way(way.book(), way.word(), way.steps()) for way in told]
        for deed in (("give", "ann"), ("step", "ann", (1, 1, "on")), ("take", "ann"), ("go", "bob")):
            session.do(deed)
        self.assertEqual(told, kept)
        session.hands().append("dan")
        session.deeds().clear()
        session.watched().append(None)
        self.assertEqual((session.hands(), session.count(), session.watched()), (["ann"], 9, []))

    def test_what_is_passed_is_copied(self):
        session = Session(TWO, "aa")
        step, question = [0, 0, "on"], ["far", "ann", "all"]
        for deed in (["come", "ann"], ["step", "ann", step], ["hold", question]):
            session.do(deed)
        step[2], question[1] = "back", "bob"
        told = [("come", "ann"), ("step", "ann", (0, 0, "on")), ("hold", ("far", "ann", "all"))]
        self.assertEqual((session.deeds(), session.watched()), (told, [(("far", "ann", "all"), 1, True)]))

    def test_told_lists_are_new(self):
        session = example()
        session.do(("watch", ("middle", "ann", "bob", "all")))
        session.do(("watch", ("middle", "bob", "bob", "all")))
        for told in (session.watched(), session.would(("strike", "bob", 0)), session.answer(("middle", "ann", "bob", "all"))):
            found = lists_within(told)
            self.assertEqual(len({id(thing) for thing in found}), len(found))
            for thing in found:
                thing.append(None)
        self.assertEqual(session.watched()[1], (("middle", "bob", "bob", "all"), session.line("bob").steps(), False))

    def test_held_in_its_place(self):
        session = played(TWO, "aa", ("watch", ("end", "all")), ("watch", ("round", "all")))
        session.do(("hold", ("end", "all")))
        self.assertEqual(session.watched(), [(("end", "all"), "aa", True), (("round", "all"), True, False)])
        session.do(("free", ("end", "all")))
        session.do(("watch", ("end", "all")))
        self.assertEqual(session.watched(), [(("round", "all"), True, False), (("end", "all"), "aa", False)])
        session.do(("hold", ("far", "all", "all")))
        self.assertEqual([row[2] for row in session.watched()], [False, False, True])

    def test_bad_hand(self):
        session = example()
        session.do(("go", "bob"))
        for thing in anything() + ["bob", "Ann", ("ann",), ["all"]]:
            for call in (session.line, session.base):
                error = raised(call, thing)
                self.assertIs(type(error), BadHand)
                self.assertIs(error.thing, thing)
        self.assertIs(type(raised(session.base, "all")), BadHand)
        self.assertEqual((session.line(who="all").steps(), session.base(hand="ann").steps()), ([], []))

    def test_equal_sessions(self):
        one = example()
        self.assertEqual(one, example())
        self.assertFalse(one != example())
        watching = [("watch", ("end", "all")), ("watch", ("round", "all"))]
        others = [
            played(TWO, "aaa", *one.deeds()), played(Book([("a", "b"), ("a", "c"), ("a", "a")]), "aa", *one.deeds()),
            played(TWO, "aa", ("come", "bob"), ("come", "ann"), *one.deeds()[2:]), played(TWO, "aa", *one.deeds()[:-1]),
            played(TWO, "aa", *one.deeds(), ("come", "dan")), played(TWO, "aa", *one.deeds(), ("give", "ann")),
            played(TWO, "aa", *one.deeds(), *watching), played(TWO, "aa", *one.deeds(), *watching[::-1]),
            played(TWO, "aa", *one.deeds(), ("hold", ("end", "all")), watching[1]), Session(TWO, "aa"),
        ]
        for at, session in enumerate(others):
            self.assertNotEqual(one, session)
            self.assertEqual([session == other for other in others].index(True), at)
        for thing in anything():
            self.assertFalse(one == thing)
            self.assertTrue(one != thing)
        # A base alone can be another one.
        step = (0, 0, "on")
        begun = [("come", "ann"), ("come", "bob"), ("step", "bob", step), ("give", "bob")]
        pair = [played(TWO, "aa", *begun, ("step", "ann", step)), played(TWO, "aa", *begun, ("take", "ann"))]
        self.assertEqual([pair[0].line(who) for who in ("ann", "bob", "all")], [pair[1].line(who) for who in ("ann", "bob", "all")])
        self.assertNotEqual(*pair)
        # How they came to be so does not count.
        self.assertEqual(played(TWO, "aa", *one.deeds(), ("come", "dan"), ("go", "dan")), one)
        around = played(TWO, "aa", *one.deeds(), ("strike", "ann", 0), ("step", "ann", (0, 0, "on")))
        around.do(("watch", ("end", "all")))
        around.undo()
        self.assertEqual(around, one)

    def test_parameters(self):
        listed = {
            "book": [], "word": [], "hands": [], "line": ["who"], "base": ["hand"], "watched": [], "do": ["deed"],
            "is_question": ["thing"], "answer": ["question"], "would": ["deed"], "count": [], "deeds": [], "undo": [],
            "again": [], "at": ["number"], "copy": [], "trial": ["work"], "__eq__": ["other"],
        }
        for name, given in listed.items():
            self.assertEqual(parameters(vars(Session)[name]), given)
        session = Session(TWO, "aa")
        self.assertEqual((session.would(deed=("come", "ann")), session.do(deed=("come", "ann"))), ([], []))
        self.assertEqual((session.is_question(thing=("end", "ann")), session.answer(question=("end", "ann"))), (True, "aa"))
        self.assertEqual((session.at(number=0).count(), session.trial(work=Session.count)), (0, 1))


class ErrorsTest(unittest.TestCase):
    def refused(self, session, deed, kind, **kept):
        before = seen_of(session)
        for call in (session.do, session.would) if kind is not WouldChange else (session.do,):
            error = raised(call, deed)
            self.assertIs(type(error), kind, repr(deed))
            for name, thing in kept.items():
                self.assertEqual(getattr(error, name), thing)
            self.assertEqual(seen_of(session), before)
        return error

    def test_bad_deed(self):
        session = example()
        wrong = OTHER_KINDS + [
            "", "come", (), ("come",), ("come", "ann", 1), ("come", 3), ("come", "Ann"), ("come", "all"), ("come", "3a"), ("come", ""),
            ("come", "ninesigns"), ("come", "an n"), ("come", "rule"), ("come", "to"), ("go", "word"), ("go", "on"), ("go", "back"),
            ("drop", "hand"), ("take", "line"), ("give", "watch"), ("come", "hold"), ("come", ["ann"]), ("leave", "ann"),
            ("step", "ann"), ("step", "ann", 0), ("step", "ann", (0, 0)), ("step", "ann", (0, 0, "off")), ("step", "ann", (True, 0, "on")),
            ("step", "all", (0, 0, "on")), ("strike", "ann"), ("strike", "ann", -1), ("strike", "ann", True), ("strike", "ann", "0"),
            ("strike", "all", 0), ("watch",), ("watch", ("end", "all"), 1), ("hold",), ("free",), (("come",), "ann"), (None, "ann"),
            ("give", "all"), ("take", "all"), ("drop", "all"), ("go", None), ("go", {}), "ab", ["step", "ann", ["0", 0, "on"]],
        ]
        for thing in wrong:
            error = self.refused(session, thing, BadDeed)
            self.assertIs(error.deed, thing)

    def test_names(self):
        session = Session(TWO, "aa")
        for name in ("a", "z9", "abcdefgh", "a1234567", "alls", "rul", "tow", "words", "o", "handy", "holds", "none", "wat"):
            self.assertEqual(session.do(["come", name]), [])
        self.assertEqual(session.hands()[:3], ["a", "z9", "abcdefgh"])

    def test_not_now(self):
        session = example()
        self.refused(session, ("come", "ann"), NotNow, why=("hand", "ann"))
        for deed in (("go", "dan"), ("drop", "dan"), ("take", "dan"), ("give", "dan"), ("strike", "dan", 99), ("step", "dan", (9, 9, "on"))):
            self.refused(session, deed, NotNow, why=("none", "dan"))
            self.refused(session, list(deed), NotNow, why=("none", "dan"))
        for step in ((0, 0, "on"), (5, 0, "on"), (0, 7, "back"), [1, 1, "back"]):
            error = self.refused(session, ("step", "ann", step), NotNow, why=("step", tuple(step)))
            self.assertIs(type(error.why[1]), tuple)
        for index in (1, 999999999):
            self.refused(session, ("strike", "ann", index), NotNow, why=("index", index))
        session.do(("give", "ann"))
        for kind in ("take", "give"):
            self.refused(session, [kind, "bob"], NotNow, why=("odds", 0, 0))

    def test_the_odds_that_merged_tells(self):
        session = played(TWO, "aaa", ("come", "ann"), ("come", "bob"), ("step", "ann", (2, 0, "on")), ("step", "ann", (1, 0, "on")),
                         ("step", "bob", (0, 0, "on")), ("step", "bob", (2, 1, "on")), ("give", "ann"))
        changes = [session.line("bob"), session.line("all")]
        self.assertEqual(at_odds(*changes), [(1, 1)])
        self.refused(session, ("give", "bob"), NotNow, why=("odds", 1, 1))

    def test_questions(self):
        session = example()
        session.do(("watch", ("end", "ann")))
        session.do(("hold", ("end", "bob")))
        for kind in ("watch", "hold", "free"):
            for thing in anything() + [("end", "dan"), ("end",), ("fits", "all"), ("far", "ann"), ["end", "dan"], ("end", ["ann"])]:
                error = self.refused(session, (kind, thing), BadQuestion)
                self.assertIs(error.thing, thing)
        self.refused(session, ("watch", ["end", "ann"]), IsWatched, question=("end", "ann"))
        self.refused(session, ("watch", ("end", "bob")), IsWatched, question=("end", "bob"))
        self.refused(session, ["hold", ["end", "bob"]], IsWatched, question=("end", "bob"))
        self.refused(session, ("free", ["end", "all"]), NotWatched, question=("end", "all"))
        self.assertEqual(session.do(("hold", ["end", "ann"])), [])

    def test_in_use_and_would_change(self):
        session = example()
        for question in (("end", "all"), ("far", "ann", "bob"), ("end", "ann"), ("fits", "bob")):
            session.do(("watch", question))
        self.refused(session, ("go", "ann"), InUse, question=("far", "ann", "bob"))
        self.refused(session, ["go", "bob"], InUse, question=("far", "ann", "bob"))
        session.do(("hold", ("end", "ann")))
        session.do(("hold", ("far", "ann", "bob")))
        self.refused(session, ("go", "ann"), InUse, question=("far", "ann", "bob"))
        self.refused(session, ("strike", "ann", 0), WouldChange, question=("far", "ann", "bob"), why=(3, 2))
        session.do(("free", ("far", "ann", "bob")))
        self.refused(session, ("strike", "ann", 0), WouldChange, question=("end", "ann"), why=("ba", "aa"))
        self.refused(session, ("go", "ann"), InUse, question=("end", "ann"))

    def test_the_why_of_fits(self):
        session = example()
        session.do(("hold", ("fits", "bob")))
        self.refused(session, ("give", "ann"), WouldChange, question=("fits", "bob"), why=("odds", 0, 0))
        session.do(("free", ("fits", "bob")))
        session.do(("give", "ann"))
        session.do(("hold", ("fits", "bob")))
        # Once it would be True: the pair of both answers.
        self.refused(session, ("strike", "bob", 0), WouldChange, question=("fits", "bob"), why=(False, True))
        self.refused(session, ("drop", "bob"), WouldChange, question=("fits", "bob"), why=(False, True))

    def test_each_error_ahead_of_the_later_ones(self):
        session = example()
        session.do(("hold", ("end", "ann")))
        self.refused(session, ("strike", "ann", 5), NotNow, why=("index", 5))
        self.refused(session, ("strike", "dan", 5), NotNow, why=("none", "dan"))
        self.refused(session, ("strike", "ann", -5), BadDeed)
        self.refused(session, ("free", ("end", "dan")), BadQuestion)
        self.refused(session, ("go", "ann"), InUse)
        # What is refused ends nothing that can be done again.
        session.undo()
        for deed in (None, ("strike", "ann", 5), ("watch", None), ("free", ("end", "ann"))):
            raised(session.do, deed)
            raised(session.would, deed)
        session.would(("go", "ann"))
        self.assertEqual(session.again(), ("hold", ("end", "ann")))


class QuestionsTest(unittest.TestCase):
    def test_each_kind(self):
        session = played(TWINS, "aa", *[("come", name) for name in NAMES])
        for deed in (("step", "ann", (0, 0, "on")), ("step", "ann", (0, 1, "back")), ("step", "bob", (1, 1, "on")),
                     ("step", "c3", (1, 0, "on")), ("step", "c3", (1, 1, "back")), ("step", "dan", (1, 1, "on"))):
            session.do(deed)
        expected = {
            ("end", "ann"): "aa", ("end", "bob"): "ab", ("end", "all"): "aa", ("round", "ann"): True, ("round", "bob"): False,
            ("root", "ann"): 1, ("root", "bob"): None, ("root", "all"): 0, ("fits", "ann"): True, ("alike", "bob", "dan"): True,
            ("alike", "ann", "all"): False, ("far", "ann", "bob"): 3, ("far", "bob", "dan"): 0, ("commute", "ann", "c3"): True,
            ("commute", "ann", "bob"): None, ("commute", "all", "all"): True, ("middle", "ann", "bob", "dan"): [(1, 1, "on")],
            ("middle", "ann", "bob", "c3"): [],
        }
        for question, answer in expected.items():
            self.assertIs(session.is_question(question), True)
            self.assertEqual(session.answer(question), answer)
            self.assertEqual(session.answer(list(question)), answer)
            self.assertIs(type(session.answer(question)), type(answer))

    def test_powers_and_rounds_that_do_not_commute(self):
        session = played(HALVES, "x", ("come", "ann"), ("come", "bob"))
        for step in ((0, 0, "back"), (1, 0, "back"), (0, 0, "on"), (0, 0, "on")) * 3:
            session.do(("step", "ann", step))
        for step in ((0, 0, "back"), (1, 0, "back"), (2, 0, "back"), (1, 0, "on"), (1, 0, "on"), (0, 0, "on")):
            session.do(("step", "bob", step))
        self.assertEqual([session.answer(("root", who)) for who in ("ann", "bob", "all")], [3, 1, 0])
        self.assertIs(session.answer(("commute", "ann", "bob")), False)
        self.assertIs(session.answer(("commute", "ann", "ann")), True)

    def test_is_question_of_any_object(self):
        session = example()
        for kind, many in KINDS.items():
            for parts in itertools.product(["ann", "bob", "all", "dan"], repeat=many):
                told = "dan" not in parts and not (kind == "fits" and "all" in parts)
                self.assertIs(session.is_question((kind, *parts)), told)
                self.assertIs(session.is_question([kind, *parts]), told)
                self.assertIs(session.is_question((kind, *parts, "ann")), False)
                self.assertIs(session.is_question((kind, *parts[1:])), False)
        for thing in anything() + [("end", 3), ("end", None), ("end", ["ann"]), ("ends", "ann"), (None, "ann"), ([], "ann"), "end", ("end", {})]:
            self.assertIs(session.is_question(thing), False)
            error = raised(session.answer, thing)
            self.assertIs(type(error), BadQuestion)
            self.assertIs(error.thing, thing)
        for thing in (("fits", "all"), ("end", "dan")):
            self.assertIs(raised(session.answer, thing).thing, thing)

    def test_which_answers_deeds_leave_as_they_are(self):
        for seed in range(12):
            rng = random.Random(500 + seed)
            session = Session((TWO, TWINS, HALVES)[seed % 3], "xa"[seed % 2] * 2)
            for name in NAMES[:3]:
                session.do(("come", name))
            for _ in range(40):
                deed = drawn_deed(rng, session)
                who = session.hands() + ["all"]
                asked = [(kind, *parts) for kind, many in KINDS.items() for parts in itertools.product(who, repeat=many)
                         if kind not in ("middle", "commute") and session.is_question((kind, *parts))]
                before = {question: session.answer(question) for question in asked}
                if raised(session.do, deed) is not None:
                    continue
                for question in asked:
                    if session.is_question(question) and session.answer(question) != before[question]:
                        self.assertIn(deed[0], ("step", "strike", "drop", "take", "give"))
                        own = deed[1] in question[1:]
                        self.assertTrue(own or deed[0] == "give" and ("all" in question[1:] or question[0] == "fits"))


class OneLineTest(unittest.TestCase):
    def begun(self, seed):
        rng = random.Random(seed)
        book = (TWO, TWINS, HALVES, DOUBLES)[seed % 4]
        session = Session(book, "aaaa" if seed % 4 < 2 else "xxxx")
        session.do(("come", "zoe"))
        session.do(("step", "zoe", rng.choice(steps_at(book, session.word()))))
        session.do(("give", "zoe"))
        for name in NAMES[:3]:
            session.do(("come", name))
            for _ in range(rng.randrange(1, 3)):
                session.do(("step", name, rng.choice(steps_at(book, session.line(name).end()))))
        return session

    def test_in_every_order(self):
        seen = {True: 0, False: 0}
        for seed in range(60):
            session = self.begun(seed)
            changes = [bare(put_behind(turned_back(session.base(name)), session.line(name))) for name in NAMES[:3]]
            apart = all(not at_odds(one, other) for one, other in itertools.combinations(changes, 2))
            lines = []
            for order in itertools.permutations(NAMES[:3]):
                one = session.copy()
                errors = [raised(one.do, ("give", name)) for name in order]
                self.assertIs(all(error is None for error in errors), apart)
                lines.append(one.line("all"))
            if apart:
                self.assertTrue(all(line == lines[0] for line in lines))
            seen[apart] += 1
        self.assertTrue(min(seen.values()) > 10, seen)

    def test_take_then_give_once_more_drop_then_take(self):
        for seed in range(60, 100):
            session = self.begun(seed)
            raised(session.do, ("give", "ann"))
            for name in ("bob", "c3"):
                straight, around = session.copy(), session.copy()
                first = raised(straight.do, ("give", name))
                second = raised(around.do, ("take", name))
                if second is None:
                    second = raised(around.do, ("give", name))
                self.assertEqual(first is None, second is None)
                if first is None:
                    self.assertEqual(around, straight)
                    self.assertEqual(straight.line(name), straight.line("all"))
                    once = straight.copy()
                    straight.do(("give", name))
                    self.assertEqual(straight, once)
                around = session.copy()
                around.do(("drop", name))
                around.do(("take", name))
                self.assertEqual((around.base(name), around.line(name)), (around.line("all"), around.line("all")))


class BackAndOnTest(unittest.TestCase):
    def test_would_changes_nothing(self):
        for seed in range(6):
            rng = random.Random(600 + seed)
            session = Session((TWO, HALVES)[seed % 2], "ax"[seed % 2] * 3)
            for _ in range(60):
                deed = drawn_deed(rng, session)
                before, other = seen_of(session), session.copy()
                error, told = None, None
                try:
                    told = session.would(deed)
                except WayError as found:
                    error = found
                self.assertEqual(seen_of(session), before)
                self.assertEqual(session, other)
                done = raised(other.do, deed)
                if error is None and done is None:
                    self.assertEqual(session.do(deed), told)
                elif error is None:
                    self.assertIs(type(done), WouldChange)
                    self.assertIn(done.question, [row[0] for row in told])
                else:
                    self.assertEqual((type(error), vars(error)), (type(done), vars(done)))

    def test_undo_and_again(self):
        session = example()
        deeds = session.deeds()
        states = [seen_of(played(TWO, "aa", *deeds[:count])) for count in range(6)]
        for count in (4, 3, 2, 1, 0):
            self.assertEqual(session.undo(), deeds[count])
            self.assertEqual(seen_of(session), states[count])
        self.assertIsNone(session.undo())
        for count in range(5):
            self.assertEqual(session.again(), deeds[count])
            self.assertEqual(seen_of(session), states[count + 1])
        self.assertIsNone(session.again())

    def test_what_ends_what_can_be_done_again(self):
        session = example()
        session.undo()
        last = ("step", "bob", (1, 0, "on"))
        for call, given in ((session.would, ("go", "ann")), (session.do, None), (session.do, ("come", "ann")), (session.at, 2),
                            (session.copy, None), (session.trial, lambda one: one.do(("come", "dan"))), (session.answer, ("end", "ann")),
                            (session.trial, lambda one: one.again())):
            raised(call, *[] if call == session.copy else [given])
            other = session.copy()
            self.assertEqual((other.again(), other.again()), (last, None))
        session.do(("come", "dan"))
        self.assertIsNone(session.again())
        self.assertEqual(session.count(), 5)

    def test_at_and_copy(self):
        session = example()
        session.undo()
        for count in range(5):
            told = session.at(count)
            self.assertEqual(seen_of(told), seen_of(played(TWO, "aa", *session.deeds()[:count])))
            self.assertIsNone(told.again())
            self.assertEqual(told.undo(), session.deeds()[count - 1] if count else None)
        other = session.copy()
        self.assertEqual(seen_of(other), seen_of(session))
        other.do(("give", "ann"))
        self.assertEqual((session.count(), session.again()), (4, ("step", "bob", (1, 0, "on"))))
        other = session.copy()
        session.undo()
        self.assertEqual((other.count(), session.count(), other.again(), other.undo()), (5, 4, None, ("step", "bob", (1, 0, "on"))))

    def test_no_count(self):
        session = example()
        for thing in OTHER_KINDS + ["", "1", [], (1,), 6, -1, session]:
            if not isinstance(thing, int) or isinstance(thing, bool) or thing not in range(6):
                error = raised(session.at, thing)
                self.assertIs(type(error), NoCount)
                self.assertIs(error.thing, thing)
        session.undo()
        self.assertEqual(raised(session.at, 5).thing, 5)

    def test_trial(self):
        session = example()
        session.undo()
        before = seen_of(session)

        def work(one):
            self.assertIs(one, session)
            one.do(("give", "ann"))
            one.undo()
            one.undo()
            one.do(("come", "dan"))
            return [one.hands(), one.count()]
        self.assertEqual(session.trial(work), [["ann", "bob", "dan"], 4])
        self.assertEqual(seen_of(session), before)
        self.assertEqual(session.again(), ("step", "bob", (1, 0, "on")))

    def test_trials_within_one_another_and_a_work_that_raises(self):
        session = example()
        session.undo()
        seen = []

        def work(one):
            one.do(("come", f"z{one.count()}"))
            seen.append(one.count())
            inside = seen_of(one)
            if one.count() < 10:
                self.assertEqual(type(raised(one.trial, work)), NotNow)
            self.assertEqual(seen_of(one), inside)
            one.do(("come", "ann"))
        before = seen_of(session)
        error = raised(session.trial, work)
        self.assertEqual((type(error), error.why), (NotNow, ("hand", "ann")))
        self.assertEqual(seen, [5, 6, 7, 8, 9, 10])
        self.assertEqual(seen_of(session), before)
        with self.assertRaises(KeyError):
            session.trial(lambda one: {}[one.undo()])
        self.assertEqual(seen_of(session), before)
        self.assertEqual(session.again(), ("step", "bob", (1, 0, "on")))

    def test_told_deeds_are_tuples(self):
        session = Session(TWO, "aa")
        deeds = [["come", "ann"], ["step", "ann", [0, 0, "on"]], ["watch", ["end", "ann"]], ["strike", "ann", 0]]
        for deed in deeds:
            kept = copy.deepcopy(deed)
            session.do(deed)
            self.assertEqual(deed, kept)
        told = [("come", "ann"), ("step", "ann", (0, 0, "on")), ("watch", ("end", "ann")), ("strike", "ann", 0)]
        self.assertEqual(session.deeds(), told)
        self.assertEqual([session.undo() for _ in told], told[::-1])
        self.assertEqual([session.again() for _ in told], told)


if __name__ == "__main__":
    unittest.main()
