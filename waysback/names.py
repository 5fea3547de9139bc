"""Names of hands, and which of them are still free."""

from waysback.words import LETTERS

FIGURES = "0123456789"
LONGEST = 8

# Words that begin, or stand in, lines of texts and deeds.
KEPT = ("rule", "to", "word", "on", "back", "hand", "line", "all", "watch", "hold")


def is_name(thing):
    """Whether any object is a name: small letters and figures, a letter first, and no kept word."""
    if not isinstance(thing, str) or thing == "" or len(thing) > LONGEST or thing in KEPT:
        return False
    return thing[0] in LETTERS and all([sign in LETTERS + FIGURES for sign in thing])


def is_begun_free(begun, taken):
    """Whether a name that is none of taken begins with begun, which is not empty."""
    total = 0
    each = 1
    for _ in range(LONGEST - len(begun) + 1):
        total += each
        each *= len(LETTERS) + len(FIGURES)
    return total > len([one for one in list(KEPT) + taken if one.startswith(begun)])


def signs_behind(begun, taken):
    """The list of the signs by which what is begun goes on to a name that is none of taken."""
    if len(begun) == LONGEST:
        return []
    signs = LETTERS if begun == "" else LETTERS + FIGURES
    return [sign for sign in signs if is_begun_free(begun + sign, taken)]
