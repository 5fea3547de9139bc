"""The rule of halves: bare ways as trees that split and join letters, and as maps by halves."""

from waysback.books import Book
from waysback.boxes import way_boxes
from waysback.doing import all_back
from waysback.errors import BadPoint, BadTable, BadWay
from waysback.stocks import bare_way
from waysback.ways import Way
from waysback.wiring import wires_and_end
from waysback.words import is_number, is_row


def halving():
    """The book of the one rule that makes two letters one."""
    return Book([("xx", "x")])


def need_halving(thing):
    """The bare way of thing; BadWay for any object that is no way of halving() from letters x alone."""
    if not isinstance(thing, Way) or thing.book() != halving() or thing.word().strip("x") != "":
        raise BadWay(thing)
    return bare_way(thing.book(), thing.word(), thing.steps())


def trees(way):
    """The pair of the lists of trees: as the bare way splits letters, and as it puts leaves together."""
    way = need_halving(way)
    boxes = way_boxes(way)
    _, row = wires_and_end(way)
    upper = {}
    for _, turn, taken, given in reversed(boxes):
        if turn == "back":
            upper[taken[0]] = (upper.get(given[0], ()), upper.get(given[1], ()))
    lower = {}
    for _, turn, taken, given in boxes:
        if turn == "on":
            lower[given[0]] = (lower.get(taken[0], ()), lower.get(taken[1], ()))
    letters = range(len(way.word()))
    return [upper.get(wire, ()) for wire in letters], [lower.get(wire, ()) for wire in row]


def halved(place):
    """The pair of the places of both halves of a place."""
    letter, row = place
    return (letter, row + "0"), (letter, row + "1")


def halves(way):
    """The list, from left to right, of the pairs (place, place) of leaves, in upper and in lower trees."""
    way = need_halving(way)
    boxes = way_boxes(way)
    _, row = wires_and_end(way)
    upper = {wire: (wire, "") for wire in range(len(way.word()))}
    for _, turn, taken, given in boxes:
        if turn == "back":
            upper[given[0]], upper[given[1]] = halved(upper[taken[0]])
            del upper[taken[0]]
    lower = {wire: (letter, "") for letter, wire in enumerate(row)}
    for _, turn, taken, given in reversed(boxes):
        if turn == "on":
            lower[taken[0]], lower[taken[1]] = halved(lower[given[0]])
    return sorted([(place, lower[wire]) for wire, place in upper.items()])


def is_place(thing):
    """Whether any object is a pair of a number and a text of figures 0 and 1."""
    if not is_row(thing) or len(thing) != 2 or not is_number(thing[0]):
        return False
    return isinstance(thing[1], str) and thing[1].strip("01") == ""


def map_value(way, point):
    """The place to whose left end way's map leads the left end of point, without noughts at its end."""
    told = halves(way)
    if not is_place(point) or point[0] >= len(way.word()):
        raise BadPoint(point)
    letter, row = point
    # The half in which the point's left end lies; noughts behind a row do not move that end.
    images = [
        (second, (other + row[len(ahead):]).rstrip("0"))
        for (first, ahead), (second, other) in told
        if first == letter and (row + "0" * len(ahead)).startswith(ahead)
    ]
    return images[0]


def next_row(row):
    """The row, without noughts at its end, that follows a row in one letter; None if the letter ends."""
    if row.strip("1") == "":
        return None
    return row.rstrip("1")[:-1] + "1"


def follows(place, ahead):
    """Whether a place begins where the place ahead ends, ahead being None at the very beginning."""
    letter, row = place
    start = row.rstrip("0")
    if ahead is None:
        return letter == 0 and start == ""
    following = next_row(ahead[1])
    if following is None:
        return letter == ahead[0] + 1 and start == ""
    return letter == ahead[0] and start == following


def is_pair_behind(thing, ahead):
    """Whether any object is a pair of places that follow those of the pair ahead."""
    if not is_row(thing) or len(thing) != 2 or not is_place(thing[0]) or not is_place(thing[1]):
        return False
    return follows(thing[0], ahead[0]) and follows(thing[1], ahead[1])


def need_halves(table):
    """Raises BadTable for what is no list of pairs of places, each behind the one ahead, of whole letters."""
    if not is_row(table):
        raise BadTable(0)
    ahead = (None, None)
    for index, thing in enumerate(table):
        if not is_pair_behind(thing, ahead):
            raise BadTable(index)
        ahead = thing
    if any([place is not None and next_row(place[1]) is not None for place in ahead]):
        raise BadTable(len(table))


def splitting(places):
    """The pair of how many letters these places, from left to right, fill, and the steps that split them so."""
    many = 1 + max([letter for letter, _ in places], default=-1)
    now = [(letter, "") for letter in range(many)]
    steps = []
    for at, place in enumerate(places):
        while len(now[at][1]) < len(place[1]):
            now[at:at + 1] = list(halved(now[at]))
            steps.append((at, 0, "back"))
    return many, steps


def way_of_halves(table):
    """The bare way whose map goes straight from the first place of each pair of table to the second."""
    need_halves(table)
    many, apart = splitting([first for first, _ in table])
    _, aside = splitting([second for _, second in table])
    return bare_way(halving(), "x" * many, apart + all_back(aside))
