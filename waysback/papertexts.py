"""What audits by texts have in common: texts read one after another, and the first that is wrong."""

from waysback.booktexts import book_fault, read_book
from waysback.movetexts import moves_fault, steps_led
from waysback.waytexts import read_way, way_fault


def first_told(answers):
    """The first of answers that is not None, None if there is none."""
    for answer in answers:
        if answer is not None:
            return answer
    return None


def wrong_text(book, sorts, texts):
    """("text", which, index) of the first that is no text of its sort, the book's first; None if none is so.

    Sorts are functions that tell, of a Book and any object, the first sign that is wrong in it.
    """
    index = book_fault(book)
    if index is not None:
        return ("text", 0, index)
    told = read_book(book)
    for which, (fault, text) in enumerate(zip(sorts, texts)):
        index = fault(told, text)
        if index is not None:
            return ("text", which + 1, index)
    return None


def wrong_way_text(book, texts):
    """What wrong_text tells if all texts but the book's are ways' ones."""
    return wrong_text(book, [way_fault for _ in texts], texts)


def ways_read(book, texts):
    """The list of the Ways of these texts."""
    told = read_book(book)
    return [read_way(told, text) for text in texts]


def wrong_word(ways, word, start):
    """("word", which) of the first of ways, numbered from start on, that is not from word; or None."""
    for index, way in enumerate(ways):
        if way.word() != word:
            return ("word", start + index)
    return None


def wrong_moves(way, which, text, other):
    """What is wrong in any object as the text, told as which, of moves from way to other; or None."""
    index = moves_fault(way, text)
    if index is not None:
        return ("text", which, index)
    if steps_led(way, text) != other.steps():
        return ("end", which)
    return None
