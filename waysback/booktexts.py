"""Texts of books."""

from waysback.books import Book, need_book
from waysback.readings import first_wrong, gone_on, scanned


def book_text(book):
    """The text of book: for each rule a line."""
    need_book(book)
    return "".join([f"rule {left} to {right}\n" for left, right in book.rules()])


def scan_sides(reading):
    """The pair of the sides of a rule whose line stands next, behind its first blank."""
    left = reading.some_letters()
    reading.take([" to "])
    right = reading.some_letters()
    reading.take(["\n"])
    return left, right


def scan_book(reading):
    """The list of the rules whose lines stand next, up to the end."""
    rules = []
    while not reading.ended():
        reading.take(["rule "])
        rules.append(scan_sides(reading))
    return rules


def read_book(text):
    """The Book of this text."""
    return Book(scanned(scan_book, text))


def book_fault(text):
    """The index of the first wrong sign, None for a book's text."""
    return first_wrong(scan_book, text)


def book_goes_on(text):
    """A book's text that begins with text, None if there is none."""
    return gone_on(scan_book, text)
