"""Words, numbers and steps, and whether any object is one."""

from waysback.errors import BadWord

LETTERS = "abcdefghijklmnopqrstuvwxyz"

# Both ways a step can turn, ascending.
TURNS = ("back", "on")


def is_word(thing):
    """Whether thing is a string of small letters a to z, perhaps of none."""
    if not isinstance(thing, str):
        return False
    return thing == "" or (thing.isascii() and thing.isalpha() and thing.islower())


def is_integer(thing):
    """Whether thing is an integer; True and False are none."""
    return isinstance(thing, int) and not isinstance(thing, bool)


def is_number(thing):
    """Whether thing is an integer from 0 on."""
    return is_integer(thing) and thing >= 0


def is_row(thing):
    """Whether thing is a list, or a tuple, which may be passed for one."""
    return isinstance(thing, (list, tuple))


def is_step(thing):
    """Whether thing is a triple (place, rule, turn)."""
    if not is_row(thing) or len(thing) != 3:
        return False
    place, rule, turn = thing
    return is_number(place) and is_number(rule) and turn in TURNS


def need_word(thing):
    """Raises BadWord for an object that is no word."""
    if not is_word(thing):
        raise BadWord(thing)
