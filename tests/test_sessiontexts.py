"""[88]: texts of sessions."""

import itertools
import random
import re
import unittest

from tests.helpers import DOUBLES, HALVES, MIXED, NO_RULES, SWAPS, TWINS, anything, raised
from tests.test_sessions import KINDS, NAMES, TWO, drawn_deed, example, played
from waysback.books import Book
from waysback.errors import BadSession, BadText
from waysback.goings import steps_at
from waysback.idles import bare
from waysback.sessions import Session
from waysback.sessiontexts import read_session, session_fault, session_goes_on, write_session
from waysback.ways import Way

KEPT = ["rule", "to", "word", "on", "back", "hand", "line", "all", "watch", "hold"]
SAMPLE = (
    "rule a to b\nrule a to c\nword aa\n0 0 on\nhand ann\nline\n0 0 on\n1 0 on\nhand bob\n0 0 on\nline\n"
    "hold far ann all\nwatch middle ann bob all\n"
)


class Parse:
    """A session's text read anew, line by line: what stands next is tried by going through all there is."""

    def __init__(self):
        self.rules, self.hands, self.watched = [], [], []
        self.where, self.way, self.word = "book", None, None

    def start(self):
        self.way = Way(Book(self.rules), self.word, [])

    def names(self):
        return self.hands + ["all"]

    def questions(self):
        return [
            (kind, *parts) for kind, many in KINDS.items() for parts in itertools.product(self.names(), repeat=many)
            if not (kind == "fits" and "all" in parts) and (kind, *parts) not in self.watched
        ]

    def step_lines(self):
        """The lines of the steps by which the way goes on bare and leftmost, each with the way behind it."""
        told = {}
        for step in steps_at(self.way.book(), self.way.end()):
            longer = Way(self.way.book(), self.way.word(), self.way.steps() + [step])
            if bare(longer) == longer:
                told["%d %d %s\n" % step] = longer
        return told

    def asked(self):
        return [f"{kind} {' '.join(question)}\n" for kind in ("watch", "hold") for question in self.questions()]

    def feed(self, line):
        """Takes a whole line; whether it is right."""
        if self.where == "book":
            rule = re.fullmatch(r"rule ([a-z]+) to ([a-z]+)\n", line)
            word = re.fullmatch(r"word ([a-z]*)\n", line)
            if rule:
                self.rules.append(rule.groups())
            elif word:
                self.where, self.word = "all", word.group(1)
                self.start()
            return bool(rule or word)
        if self.where != "watch" and line in self.step_lines():
            self.way = self.step_lines()[line]
            return True
        if self.where == "base":
            self.where = "line"
            self.start()
            return line == "line\n"
        name = re.fullmatch(r"hand ([a-z][a-z0-9]{0,7})\n", line)
        if self.where != "watch" and name and name.group(1) not in self.hands + KEPT:
            self.where = "base"
            self.hands.append(name.group(1))
            self.start()
            return True
        self.where = "watch"
        if line in self.asked():
            self.watched.append(tuple(line.split()[1:]))
            return True
        return False

    def may_go_on(self, begun):
        """Whether some line that may stand next begins so."""
        if begun == "":
            return True
        if self.where == "book":
            return bool(re.fullmatch(r"(r|ru|rul|rule|rule ([a-z]+( (t|to|to ([a-z]+)?)?)?)?|w|wo|wor|word|word [a-z]*)", begun))
        if self.where != "watch" and any(line.startswith(begun) for line in self.step_lines()):
            return True
        if self.where == "base":
            return "line\n".startswith(begun)
        if self.where != "watch":
            name = re.fullmatch(r"hand ([a-z][a-z0-9]{0,7})", begun)
            if "hand ".startswith(begun) or name and (len(name.group(1)) < 8 or name.group(1) not in self.hands):
                return True
        return any(line.startswith(begun) for line in self.asked())


def fault_told(text):
    """The first sign that is wrong in a text, by Parse."""
    parse, at = Parse(), 0
    *lines, last = text.split("\n")
    for line in lines:
        for end in range(1, len(line) + 1):
            if not parse.may_go_on(line[:end]):
                return at + end - 1
        if not parse.feed(line + "\n"):
            return at + len(line)
        at += len(line) + 1
    for end in range(1, len(last) + 1):
        if not parse.may_go_on(last[:end]):
            return at + end - 1
    return None if last == "" and parse.where in ("all", "line", "watch") else len(text)


def some_sessions(seed, count=12, deeds=40):
    told = [Session(TWO, "aa"), Session(NO_RULES, ""), example()]
    for number in range(count):
        rng = random.Random(seed + number)
        book, word = ((TWO, "aa"), (HALVES, "xxx"), (SWAPS, "abx"), (TWINS, "aba"), (DOUBLES, "x"), (MIXED, "abc"))[number % 6]
        session = Session(book, word)
        for _ in range(deeds):
            raised(session.do, drawn_deed(rng, session))
        told.append(session)
    return told


class WriteTest(unittest.TestCase):
    def test_sample(self):
        session = example()
        for deed in (("give", "ann"), ("hold", ("far", "ann", "all")), ("watch", ("middle", "ann", "bob", "all"))):
            session.do(deed)
        expected = (
            "rule a to b\nrule a to c\nword aa\n0 0 on\nhand ann\n0 0 on\nline\n0 0 on\nhand bob\nline\n0 1 on\n1 0 on\n"
            "hold far ann all\nwatch middle ann bob all\n"
        )
        self.assertEqual(write_session(session=session), expected)
        self.assertEqual(write_session(Session(NO_RULES, "")), "word \n")

    def test_bad_session(self):
        for thing in anything():
            error = raised(write_session, thing)
            self.assertIs(type(error), BadSession)
            self.assertIs(error.thing, thing)


class ReadTest(unittest.TestCase):
    def test_there_and_back(self):
        for session in some_sessions(400, 24):
            text = write_session(session)
            told = read_session(text=text)
            self.assertEqual(told, session)
            self.assertEqual(write_session(told), text)
            self.assertEqual((told.count(), told.deeds(), told.undo(), told.again()), (0, [], None, None))
            self.assertIsNone(session_fault(text))

    def test_it_is_worked_on_like_any_other(self):
        rng = random.Random(401)
        for session in some_sessions(402):
            told = read_session(write_session(session))
            for _ in range(20):
                deed = drawn_deed(rng, session)
                errors = [raised(one.do, deed) for one in (session, told)]
                self.assertEqual(type(errors[0]), type(errors[1]))
                self.assertEqual(told, session)
            self.assertEqual(told.at(0), read_session(write_session(told.at(0))))

    def test_lines_and_bases_of_any_bare_ways(self):
        session = read_session(SAMPLE)
        self.assertEqual(session.hands(), ["ann", "bob"])
        self.assertEqual([session.line(who).steps() for who in ("all", "ann", "bob")], [[(0, 0, "on")], [(0, 0, "on"), (1, 0, "on")], []])
        self.assertEqual([session.base(who).steps() for who in ("ann", "bob")], [[], [(0, 0, "on")]])
        self.assertEqual([row[0] for row in session.watched()], [("far", "ann", "all"), ("middle", "ann", "bob", "all")])
        self.assertEqual([row[2] for row in session.watched()], [True, False])
        self.assertEqual(write_session(session), SAMPLE)

    def test_bad_text(self):
        for text in anything() + [SAMPLE[:-1], SAMPLE + "x", "word", SAMPLE.replace("bob", "ann")]:
            fault = session_fault(text)
            error = raised(read_session, text)
            if fault is not None:
                self.assertIs(type(error), BadText)
                self.assertEqual(error.index, fault)


class FaultTest(unittest.TestCase):
    def held(self, text):
        """Looks at what is told of a text by what is told anew."""
        fault = fault_told(text)
        self.assertEqual(session_fault(text=text), fault, repr(text))
        longer = session_goes_on(text=text)
        if fault is None or fault == len(text):
            self.assertTrue(longer.startswith(text))
            self.assertIsNone(fault_told(longer), repr(longer))
            self.assertIsNone(session_fault(longer))
            self.assertEqual(session_goes_on(text), longer)
        else:
            self.assertIsNone(longer)

    def test_cut_at_every_place(self):
        for session in some_sessions(403, 5, 10):
            text = write_session(session)
            for end in range(len(text) + 1):
                self.held(text[:end])

    def test_changed_at_every_place(self):
        rng = random.Random(404)
        for session in some_sessions(405, 3, 9):
            text = write_session(session)
            for at in range(len(text)):
                sign = rng.choice("ab01 \nhlwzon?")
                self.held(text[:at] + sign + text[at + 1:])
                self.held(text[:at] + sign + text[at:])
                self.held(text[:at] + text[at + 1:])

    def test_exchanged_lines(self):
        rng = random.Random(406)
        for session in [read_session(SAMPLE)] + some_sessions(407, 4, 12):
            lines = write_session(session).splitlines(keepends=True)
            for _ in range(9):
                at, to = rng.randrange(len(lines)), rng.randrange(len(lines))
                mixed = list(lines)
                mixed[at], mixed[to] = mixed[to], mixed[at]
                self.held("".join(mixed))
                self.held("".join(lines[:at] + [lines[to]] + lines[at:]))
                self.held("".join(lines[:at] + lines[at + 1:]))

    def test_steps_that_are_not_bare_or_not_leftmost(self):
        book = "rule a to b\nrule a to c\nword aa\n"
        for lines, index in (("1 0 on\n0 0 on\n", 7), ("0 0 on\n0 0 back\n", 7), ("0 0 on\n0 1 back\n", 7), ("1 0 on\n0", 7),
                             ("2 0 on\n", 0), ("0 2 on\n", 2)):
            for ahead in ("", "hand ann\n", "hand ann\nline\n"):
                text = book + ahead + lines
                self.assertEqual(session_fault(text), len(book + ahead) + index, text)
                self.held(text)
        for lines in ("0 0 on\n1 0 on\n", "0 0 on\n1 1 on\n", "1 0 on\n", ""):
            for ahead, ended in (("", True), ("hand ann\n", False), ("hand ann\nline\n", True)):
                text = book + ahead + lines
                self.assertEqual(session_fault(text), None if ended else len(text), text)
                self.held(text)

    def test_names(self):
        begun = "word a\nhand "
        for name, at in (("ann", None), ("a", None), ("abcdefgh", None), ("abcdefghi", 8), ("9a", 0), ("Ann", 0), ("a-b", 1), ("", 0),
                         ("line", 4), ("all", 3), ("on", 2), ("rule", 4), ("to", 2), ("word", 4), ("back", 4), ("hand", 4), ("watch", 5),
                         ("hold", 4), ("lines", None), ("al", None), ("tob", None)):
            text = begun + name + "\nline\n"
            self.assertEqual(session_fault(text), None if at is None else len(begun) + at, name)
            self.held(text)
        two = "word a\nhand abcdefgh\nline\nhand abcdefgh\n"
        self.assertEqual(session_fault(two), two.index("h\n", 20))
        two = "word a\nhand abc\nline\nhand abc\n"
        self.assertEqual(session_fault(two), len(two) - 1)
        self.assertTrue(session_goes_on(two[:-1]).startswith(two[:-1]))
        # Once all that goes on so are hands, the sign is wrong already.
        many = "word a\n" + "".join(f"hand abcdefg{sign}\nline\n" for sign in "abcdefghijklmnopqrstuvwxyz0123456789")
        self.assertIsNone(session_fault(many + "hand abcdefg\nline\n"))
        self.assertEqual(session_fault(many + "hand abcdefg\nline\nhand abcdefg"), len(many) + 29)
        self.assertIsNone(session_goes_on(many + "hand abcdefg\nline\nhand abcdefg"))
        self.assertEqual(session_fault(many + "hand abcdefg\nline\nhand abcdef"), len(many) + 29)

    def test_questions_that_are_none_there_and_questions_twice(self):
        begun = "word a\nhand ann\nline\n"
        for lines, at in (
            ("watch end ann\n", None), ("hold end bob\n", 9), ("watch fits all\n", 12), ("watch ends ann\n", 9), ("watch far ann\n", 13),
            ("watch end ann all\n", 13), ("watch end ann\nhold end ann\n", 24), ("hold end ann\nhold end ann\n", 23),
            ("hold far ann all\nwatch far all ann\n", None), ("watch  end ann\n", 6), ("watch end ann\nhand bob\n", 15),
            ("watch end ann\n0", 14), ("hold\n", 4), ("watch end ann\nhold end all\n", None), ("watch middle ann ann ann\n", None),
        ):
            self.assertEqual(session_fault(begun + lines), None if at is None else len(begun) + at, lines)
            self.held(begun + lines)

    def test_all_questions_asked(self):
        lines = ["%s all%s\n" % (kind, " all" * (many - 1)) for kind, many in KINDS.items() if kind != "fits"]
        text = "word a\n" + "".join("watch " + line for line in lines)
        self.assertEqual(len(read_session(text).watched()), 7)
        for more in ("w", "watch ", "h", "hold "):
            self.assertEqual(session_fault(text + more), len(text))
            self.assertIsNone(session_goes_on(text + more))
        self.assertEqual(session_goes_on(text), text)
        # What has stood goes on to nothing.
        self.assertEqual(session_fault("word a\nwatch root all\nwatch roo"), 30)
        self.assertEqual(session_fault("word a\nwatch root all\nwatch round all\nwatch r"), 44)

    def test_samples(self):
        for text, index in (
            ("", 0), ("w", 1), ("word", 4), ("word a", 6), ("word a\n", None), ("rule a to b\n", 12), ("rule  to", 5), ("hand ann\n", 0),
            ("word a\nhand ann\n", 16), ("word a\nhand ann\nhand", 16), ("word a\nline\n", 7), ("word a\nrule a to b\n", 7),
            ("word a\n\n", 7), ("word A\n", 5), ("rule a to b\nword a\n0 0 on\n0 0 on\n", 26), (" ", 0), ("rule a to b\n0", 12),
            ("rule a to b\nword a\n0 0 on\nline\n", 26), ("rule a to b\nword a\n" + "9" * 5000, 19),
        ):
            self.assertEqual(session_fault(text), index, repr(text))
            if len(text) < 100:
                self.held(text)

    def test_any_object(self):
        for thing in anything() + [Session(TWO, "aa")]:
            if not isinstance(thing, str):
                self.assertEqual(session_fault(thing), -1)
                self.assertIsNone(session_goes_on(thing))

    def test_hands_of_all_names(self):
        session = played(TWO, "aa", *[("come", name) for name in NAMES])
        self.assertEqual(read_session(write_session(session)).hands(), NAMES)


if __name__ == "__main__":
    unittest.main()
