"""Texts read from the left up to their first wrong sign, whatever they are texts of.

A scan is a function that is handed a Reading and reads all that belongs there.
"""

from waysback.errors import BadText
from waysback.words import LETTERS


def same_ahead(first, text, start):
    """How many signs of first stand in text from start on, up to one that is another."""
    many = min(len(first), len(text) - start)
    for at in range(many):
        if first[at] != text[start + at]:
            return at
    return many


class Reading:
    """A text and how far it is read; behind the first wrong sign nothing is read."""

    def __init__(self, text):
        self.text = text
        self.at = 0
        self.wrong = None
        self.rest = ""

    def ended(self):
        """Whether all is read, or a sign was wrong."""
        return self.wrong is not None or self.at == len(self.text)

    def take(self, options):
        """Reads the one of options that stands next and tells it, "" if none does.

        Options are strings, none of them empty or the beginning of another. If the
        text ends within one, rest is what is missing of it.
        """
        if self.wrong is not None:
            return ""
        far = 0
        self.rest = ""
        for option in options:
            if self.text.startswith(option, self.at):
                self.at += len(option)
                return option
            same = same_ahead(option, self.text, self.at)
            if same > far or self.rest == "":
                far = same
                self.rest = option[same:]
        self.wrong = self.at + far
        return ""

    def finish(self):
        """Lets the next sign be wrong, if there is one."""
        if not self.ended():
            self.wrong = self.at

    def letters(self):
        """Reads the letters that stand next and tells them as a word."""
        start = self.at
        while not self.ended() and self.text[self.at] in LETTERS:
            self.at += 1
        return self.text[start:self.at]

    def some_letters(self):
        """Reads the letters that stand next, of which there must be one."""
        word = self.letters()
        if word == "":
            self.take(LETTERS)
        return word

    def along(self, word):
        """Reads on as long as the signs are those of word, and tells how many are."""
        if self.wrong is not None:
            return 0
        same = same_ahead(word, self.text, self.at)
        self.at += same
        return same

    def sign(self):
        """The sign that stands next, "" behind the last one."""
        return self.text[self.at:self.at + 1]

    def line(self):
        """All that stands next, up to its line feed; "" if there is none."""
        return self.text[self.at:self.text.find("\n", self.at) + 1]


def first_wrong(scan, thing):
    """The index of the first wrong sign of any object, None if there is none."""
    if not isinstance(thing, str):
        return -1
    reading = Reading(thing)
    scan(reading)
    return reading.wrong


def scanned(scan, thing):
    """What scan tells of a whole text; BadText of what is none."""
    if not isinstance(thing, str):
        raise BadText(-1)
    reading = Reading(thing)
    told = scan(reading)
    if reading.wrong is not None:
        raise BadText(reading.wrong)
    return told


def gone_on(scan, thing):
    """A whole text that begins with thing, None if there is none."""
    if not isinstance(thing, str):
        return None
    reading = Reading(thing)
    scan(reading)
    # What is missing of one part is known, but other parts may be missing behind it.
    while reading.wrong == len(reading.text):
        reading = Reading(reading.text + reading.rest)
        scan(reading)
    if reading.wrong is None:
        return reading.text
    return None
