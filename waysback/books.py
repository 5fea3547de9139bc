"""Books: lists of word rules."""

from waysback.errors import BadBook, BadRules
from waysback.words import is_row, is_word


def is_rule(thing):
    """Whether thing is a pair of words, neither of them empty."""
    if not is_row(thing) or len(thing) != 2:
        return False
    left, right = thing
    return is_word(left) and is_word(right) and left != "" and right != ""


class Book:
    """A list of rules, told by their indexes; it never changes."""

    def __init__(self, rules):
        if not is_row(rules):
            raise BadRules(0)
        for index, rule in enumerate(rules):
            if not is_rule(rule):
                raise BadRules(index)
        self._rules = [tuple(rule) for rule in rules]

    def __eq__(self, other):
        return isinstance(other, Book) and self._rules == other._rules

    def rules(self):
        """The list of the pairs (left, right)."""
        return list(self._rules)


def need_book(thing):
    """Raises BadBook for an object that is no Book."""
    if not isinstance(thing, Book):
        raise BadBook(thing)
