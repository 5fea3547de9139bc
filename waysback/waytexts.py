"""Texts of ways: a line of the word, and a line for each step."""

from waysback.books import need_book
from waysback.doing import can_do, steps_on, word_behind
from waysback.readings import first_wrong, gone_on, scanned
from waysback.ways import Way, need_way

# No place in a word, no index of a rule has more figures, and Python reads no number of thousands.
MOST_FIGURES = 9


def step_line(step):
    """The line of a step."""
    place, rule, turn = step
    return f"{place} {rule} {turn}\n"


def way_text(way):
    """The text of way."""
    need_way(way)
    lines = [step_line(step) for step in way.steps()]
    return "word " + way.word() + "\n" + "".join(lines)


def number_told(text):
    """The number that Python writes as text, None if there is none."""
    if len(text) > MOST_FIGURES or not text.isascii() or not text.isdigit():
        return None
    number = int(text)
    if str(number) != text:
        return None
    return number


def step_told(line):
    """The triple that line, up to its line feed, may tell as a step's; None if it tells none."""
    parts = line.removesuffix("\n").split(" ")
    if len(parts) != 3:
        return None
    return number_told(parts[0]), number_told(parts[1]), parts[2]


def scan_step(rules, word, reading):
    """The step that can be done on word whose line stands next, None if none does."""
    line = reading.line()
    step = step_told(line)
    if can_do(rules, word, step):
        reading.take([line])
        return step
    # Only a wrong line is held beside the lines of all steps: they are many.
    reading.take([step_line(other) for other in steps_on(rules, word)])
    return None


def scan_way(book, reading):
    """The way of book whose text stands next, as far as it is right."""
    rules = book.rules()
    reading.take(["word "])
    start = reading.letters()
    reading.take(["\n"])
    word = start
    steps = []
    while not reading.ended():
        step = scan_step(rules, word, reading)
        if step is not None:
            steps.append(step)
            word = word_behind(rules, word, step)
    return Way(book, start, steps)


def read_way(book, text):
    """The Way of book of this text."""
    need_book(book)
    return scanned(lambda reading: scan_way(book, reading), text)


def way_fault(book, text):
    """The index of the first wrong sign, None for the text of a way of book."""
    need_book(book)
    return first_wrong(lambda reading: scan_way(book, reading), text)


def way_goes_on(book, text):
    """A text of a way of book that begins with text, None if there is none."""
    need_book(book)
    return gone_on(lambda reading: scan_way(book, reading), text)
