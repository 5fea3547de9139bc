"""What several tests use: sample books, ways made by rule, objects of all kinds, plain oracles."""

import inspect
import random

from waysback.books import Book
from waysback.errors import BadWay
from waysback.goings import steps_at
from waysback.ways import Way

HALVES = Book([("xx", "x")])
DOUBLES = Book([("x", "xx")])
TWINS = Book([("a", "b"), ("a", "b")])
RING = Book([("a", "b"), ("b", "c"), ("c", "a")])
NO_RULES = Book([])
MIXED = Book([("ab", "ba"), ("a", "aa"), ("b", "ab"), ("ba", "c"), ("c", "c"), ("abc", "b")])
BOOKS = [HALVES, DOUBLES, TWINS, RING, NO_RULES, MIXED]

SWAPS = Book([("ab", "ba"), ("a", "aa"), ("xx", "x")])
TURNING = Book([("xy", "yx"), ("xx", "yy"), ("x", "x")])
ROUND_BOOKS = [HALVES, DOUBLES, TWINS, RING, SWAPS, TURNING, MIXED]

# Twenty rules with sides of up to ten letters, as great as the limits let a book be.
GREAT = Book([("x", "y" * (1 + k % 10)) for k in range(18)] + [("xy" * 5, "z" * 10), ("z", "x" * 10)])


def some_function(one):
    return one


# One of each kind of object that any object may be, none of them a word, a step or a row of things.
OTHER_KINDS = [None, True, False, 0, 3, -1, 10 ** 30, {}, {"a": "b"}, some_function, BadWay(None), Way]


def anything():
    """Objects of all kinds."""
    return OTHER_KINDS + [
        "", "ab", "Ab", "a b", [], (), [[]], [None], ["a"], [("a", "b")], ("a", "b"), (0, 0, "on"), [0, 0, "on"],
        HALVES, Way(HALVES, "xx", []), Way(HALVES, "xx", [(0, 0, "on")]), Way(MIXED, "ab", []),
    ]


def random_way(rng, book, word, many, longest=30):
    """A way of book from word, of so many steps if so many can be done."""
    steps = []
    at = word
    for _ in range(many):
        choices = [step for step in steps_at(book, at) if len(word_after(book, at, step)) <= longest]
        if not choices:
            break
        step = rng.choice(choices)
        steps.append(step)
        at = word_after(book, at, step)
    return Way(book, word, steps)


def word_after(book, word, step):
    """The word behind a step, told anew here."""
    left, right = book.rules()[step[1]]
    source, goal = (left, right) if step[2] == "on" else (right, left)
    assert word[step[0]:].startswith(source)
    return word[:step[0]] + goal + word[step[0] + len(source):]


def sample_ways(seed=1, each=12, most=9):
    """Ways of all sample books, of all numbers of steps up to most."""
    rng = random.Random(seed)
    ways = []
    for book in BOOKS:
        letters = sorted({letter for rule in book.rules() for side in rule for letter in side} | {"x", "a"})
        for number in range(each):
            word = "".join(rng.choice(letters) for _ in range(rng.randrange(6)))
            ways.append(random_way(rng, book, word, number % (most + 1)))
    return ways


def long_way(book, word, many=200, longest=400, seed=7):
    """A way as long as the limits let it be."""
    return random_way(random.Random(seed), book, word, many, longest)


def raised(call, *given, **named):
    """The error that a call raises, None if it raises none."""
    try:
        call(*given, **named)
    except ValueError as error:
        return error
    return None


def parameters(call):
    return [name for name in inspect.signature(call).parameters if name != "self"]


def lists_within(thing):
    """All lists and dicts within what is told, each as often as it stands there."""
    found = [thing] if isinstance(thing, (list, dict)) else []
    if isinstance(thing, (list, tuple)):
        for part in thing:
            found += lists_within(part)
    if isinstance(thing, dict):
        for part in thing.values():
            found += lists_within(part)
    return found


def as_lists(thing):
    """thing with lists for all its tuples."""
    return [as_lists(part) for part in thing] if isinstance(thing, (list, tuple)) else thing


def as_tuples(thing):
    """thing with tuples for all its lists."""
    return tuple(as_tuples(part) for part in thing) if isinstance(thing, (list, tuple)) else thing


def all_ways(book, letters, longest, many):
    """All ways of book of at most so many steps from words of at most so many of the letters."""
    words = [""]
    for word in words:
        if len(word) < longest:
            words.extend(word + letter for letter in letters)
    ways = [Way(book, word, []) for word in words]
    told = list(ways)
    for _ in range(many):
        ways = [Way(book, way.word(), way.steps() + [step]) for way in ways for step in steps_at(book, way.end())]
        told += ways
    return told


def beginnings(texts):
    """The set of all beginnings of texts, themselves among them."""
    return {text[:end] for text in texts for end in range(len(text) + 1)}


def fault_by_beginnings(text, begun, whole):
    """What a fault function has to tell of text, if begun holds all beginnings it meets."""
    if text in whole:
        return None
    for end in range(1, len(text) + 1):
        if text[:end] not in begun:
            return end - 1
    return len(text)


def way_back(book, word, wanted, longest):
    """The steps of a way from word to wanted over words of at most so many letters, as short as can be."""
    known = {word: []}
    line = [word]
    for at in line:
        if at == wanted:
            return known[at]
        for step in steps_at(book, at):
            behind = word_after(book, at, step)
            if behind not in known and len(behind) <= longest:
                known[behind] = known[at] + [step]
                line.append(behind)
    raise AssertionError("there is no such way")


def random_round(rng, book, word, many, longest=6):
    """A round of book at word: so many steps, and a way back."""
    way = random_way(rng, book, word, many, longest)
    return Way(book, word, way.steps() + way_back(book, way.end(), word, longest))


def sample_rounds(seed=1, each=12, most=9):
    """Rounds of several books, many of them neither alike to no steps nor straight."""
    rng = random.Random(seed)
    rounds = []
    for book in ROUND_BOOKS:
        letters = sorted({letter for rule in book.rules() for side in rule for letter in side})
        for number in range(each):
            word = "".join(rng.choice(letters) for _ in range(rng.randrange(1, 5)))
            made = random_round(rng, book, word, number % (most + 1))
            if number % 3 == 2:
                aside = random_way(rng, book, word, rng.randrange(5), 9)
                made = Way(book, aside.end(), way_told_back(aside) + made.steps() + aside.steps())
            rounds.append(made)
    return rounds


def way_told_back(way):
    """The steps that lead back along way, told anew here."""
    return [(place, rule, "on" if turn == "back" else "back") for place, rule, turn in way.steps()[::-1]]


def ways_from(book, word, many):
    """All ways of book from word of at most so many steps."""
    ways = [Way(book, word, [])]
    told = list(ways)
    for _ in range(many):
        ways = [Way(book, word, way.steps() + [step]) for way in ways for step in steps_at(book, way.end())]
        told += ways
    return told


def drawn_ways(rng, book, word, count, most, longest=8):
    """So many ways of book from word, of at most most steps, some beginning alike."""
    told = [random_way(rng, book, word, rng.randrange(most + 1), longest) for _ in range(count)]
    for at in range(1, count, 2):
        begun = told[at - 1].steps()[:rng.randrange(most + 1)]
        further = random_way(rng, book, Way(book, word, begun).end(), rng.randrange(4), longest)
        told[at] = Way(book, word, begun + further.steps())
    return told
