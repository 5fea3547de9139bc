"""Texts of sessions: the book, the word, the lines of all and of the hands, and what is watched."""

from waysback.barelines import BareLine
from waysback.books import Book
from waysback.booktexts import book_text, scan_sides
from waysback.desks import Desk
from waysback.errors import BadSession
from waysback.names import is_name, signs_behind
from waysback.questions import all_questions, can_be_asked
from waysback.readings import first_wrong, gone_on, scanned
from waysback.sessions import Session, started
from waysback.waytexts import step_line, step_told, way_text

# What may begin a line behind the steps of a line; the last two begin those of questions.
HEADS = ("hand ", "watch ", "hold ")
WATCHING = ("watch ", "hold ")


def steps_text(way):
    """The lines of the steps of way."""
    return "".join([step_line(step) for step in way.steps()])


def write_session(session):
    """The text of session."""
    if not isinstance(session, Session):
        raise BadSession(session)
    told = [book_text(session.book()), way_text(session.line("all"))]
    for hand in session.hands():
        told.extend([f"hand {hand}\n", steps_text(session.base(hand))])
        told.extend(["line\n", steps_text(session.line(hand))])
    for question, _, held in session.watched():
        told.append(("hold " if held else "watch ") + " ".join(question) + "\n")
    return "".join(told)


def scan_line(book, word, heads, reading):
    """The pair of the bare way whose steps' lines stand next, and the one of heads that stands behind them.

    It is "" if the text ends ahead of it, or a sign is wrong.
    """
    line = BareLine(book, word)
    head = ""
    while head == "" and not reading.ended():
        text = reading.line()
        step = step_told(text)
        if line.fits(step):
            line.go(step)
            reading.take([text])
        else:
            head = reading.take(heads + [step_line(other) for other in line.fitting()])
    return line.way(), head


def scan_name(taken, reading):
    """The name whose line stands next, none of taken."""
    name = ""
    while True:
        ends = ["\n"] if is_name(name) and name not in taken else []
        sign = reading.take(ends + signs_behind(name, taken))
        if sign in ("", "\n"):
            return name
        name += sign


def scan_question(desk, watched, reading):
    """The question whose line stands next, none of watched; None if none does."""
    text = reading.line()
    question = tuple(text.removesuffix("\n").split(" "))
    if can_be_asked(desk, question) and question not in watched:
        reading.take([text])
        return question
    # Only a wrong line is held beside those of all questions.
    reading.take([" ".join(other) + "\n" for other in all_questions(desk) if other not in watched])
    return None


def scan_watched(desk, head, reading):
    """The dict of the questions whose lines stand next, the first one behind head, and whether each is held."""
    many = len(all_questions(desk))
    watched = {}
    while head != "":
        question = scan_question(desk, watched, reading)
        if question is not None:
            watched[question] = head == "hold "
        head = ""
        if not reading.ended():
            head = reading.take(list(WATCHING) if len(watched) < many else [])
    return watched


def scan_hands(book, word, head, reading):
    """The dict of the hands whose lines stand next, the first one behind head, and the head behind them."""
    hands = {}
    while head == "hand ":
        name = scan_name(list(hands), reading)
        base, between = scan_line(book, word, ["line\n"], reading)
        if between == "":
            reading.take(["line\n"])
        line, head = scan_line(book, word, list(HEADS), reading)
        hands[name] = (base, line)
    return hands, head


def scan_session(reading):
    """The desk whose text stands next, up to the end; None if a sign is wrong ahead of the first line."""
    rules = []
    while reading.take(["word ", "rule "]) == "rule ":
        rules.append(scan_sides(reading))
    word = reading.letters()
    reading.take(["\n"])
    if reading.wrong is not None:
        return None
    book = Book(rules)
    common, head = scan_line(book, word, list(HEADS), reading)
    hands, head = scan_hands(book, word, head, reading)
    return Desk(common, hands, scan_watched(Desk(common, hands, {}), head, reading))


def read_session(text):
    """The Session of this text, no deed done."""
    return started(scanned(scan_session, text))


def session_fault(text):
    """The index of the first wrong sign, None for a session's text."""
    return first_wrong(scan_session, text)


def session_goes_on(text):
    """A session's text that begins with text, None if there is none."""
    return gone_on(scan_session, text)
