"""Rows of ways: texts that show each word, with the source of the step in brackets."""

from waysback.books import need_book
from waysback.doing import sides, word_behind
from waysback.readings import first_wrong, gone_on, scanned
from waysback.ways import Way, need_way
from waysback.words import TURNS


def row_line(rules, word, step):
    """The line of a step that is done on word."""
    place, rule, turn = step
    source, _ = sides(rules, step)
    ahead, behind = word[:place], word[place + len(source):]
    return f"{ahead}[{source}]{behind} {rule} {turn}\n"


def rows_text(way):
    """The rows of way."""
    need_way(way)
    rules = way.book().rules()
    lines = [row_line(rules, word, step) for word, step in zip(way.words(), way.steps())]
    return "".join(lines) + way.end() + "\n"


def kinds_by_source(rules):
    """The dict that has, for each source, a dict of its steps' (rule, turn) by how rows end."""
    kinds = {}
    for rule in range(len(rules)):
        for turn in TURNS:
            source, _ = sides(rules, (0, rule, turn))
            ends = kinds.setdefault(source, {})
            ends[f" {rule} {turn}\n"] = (rule, turn)
    return kinds


def scan_source(sources, reading):
    """The one of sources that stands next in brackets."""
    return reading.take([f"[{source}]" for source in sources])[1:-1]


def scan_kind(ends, tail, reading):
    """The (rule, turn) of a row that goes on by tail and then one of ends, None if none does."""
    told = reading.take([tail + end for end in ends])
    return ends.get(told[len(tail):])


def scan_first(kinds, reading):
    """The word of the first row, and the step that is done on it, None for the last row."""
    ahead = reading.letters()
    if reading.sign() != "[":
        reading.take(["\n"])
        return ahead, None
    source = scan_source(list(kinds), reading)
    behind = reading.letters()
    kind = scan_kind(kinds.get(source, {}), "", reading)
    if kind is None:
        return ahead, None
    return ahead + source + behind, (len(ahead), kind[0], kind[1])


def scan_next(kinds, word, reading):
    """The step of the row of word that stands next, None for the last row."""
    place = reading.along(word)
    if reading.sign() != "[":
        reading.take([word[place:] + "\n"])
        return None
    sources = [source for source in kinds if word.startswith(source, place)]
    source = scan_source(sources, reading)
    kind = scan_kind(kinds.get(source, {}), word[place + len(source):], reading)
    if kind is None:
        return None
    return place, kind[0], kind[1]


def scan_rows(book, reading):
    """The way of book whose rows stand next, as far as they are right."""
    rules = book.rules()
    kinds = kinds_by_source(rules)
    start, step = scan_first(kinds, reading)
    word = start
    steps = []
    while step is not None:
        steps.append(step)
        word = word_behind(rules, word, step)
        step = scan_next(kinds, word, reading)
    reading.finish()
    return Way(book, start, steps)


def read_rows(book, text):
    """The Way of book of these rows."""
    need_book(book)
    return scanned(lambda reading: scan_rows(book, reading), text)


def rows_fault(book, text):
    """The index of the first wrong sign, None for the rows of a way of book."""
    need_book(book)
    return first_wrong(lambda reading: scan_rows(book, reading), text)


def rows_go_on(book, text):
    """Rows of a way of book that begin with text, None if there are none."""
    need_book(book)
    return gone_on(lambda reading: scan_rows(book, reading), text)
