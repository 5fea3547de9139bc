"""Wires: which letter along a way comes from which, and goes to which."""

from waysback.doing import sides
from waysback.errors import BadNumber
from waysback.ways import need_index, need_way
from waysback.words import is_number


def wires_and_end(way):
    """The pair of what wires tells of way, and the list of the wires of the letters of its end."""
    rules = way.book().rules()
    row = list(range(len(way.word())))
    fresh = len(row)
    told = []
    for step in way.steps():
        source, goal = sides(rules, step)
        place = step[0]
        taken = row[place:place + len(source)]
        given = list(range(fresh, fresh + len(goal)))
        fresh += len(goal)
        row[place:place + len(source)] = given
        told.append((taken, given))
    return told, row


def wires(way):
    """The list, step by step, of the pairs (taken, given) of lists of wires."""
    need_way(way)
    return wires_and_end(way)[0]


def wire_rows(way):
    """The list, word by word, of the lists of the wires of its letters."""
    need_way(way)
    rows = [list(range(len(way.word())))]
    for step, (taken, given) in zip(way.steps(), wires(way)):
        row = rows[-1]
        place = step[0]
        rows.append(row[:place] + given + row[place + len(taken):])
    return rows


def need_letter(way, index, place):
    """Raises what is due if place is no letter's of the index-th word along way."""
    need_way(way)
    need_index(way, index)
    if not is_number(place) or place >= len(way.words()[index]):
        raise BadNumber(place)


def place_across(at, place, gone, come):
    """Where letter at stands when come letters stand at place for gone ones; None for one gone."""
    if at < place:
        return at
    if at < place + gone:
        return None
    return at - gone + come


def comes_from(way, index, place):
    """The pair (step, at) of what gives this letter's wire, step None for way's word."""
    need_letter(way, index, place)
    rules = way.book().rules()
    steps = way.steps()
    at = place
    for number in reversed(range(index)):
        source, goal = sides(rules, steps[number])
        across = place_across(at, steps[number][0], len(goal), len(source))
        if across is None:
            return number, at - steps[number][0]
        at = across
    return None, at


def goes_to(way, index, place):
    """The pair (step, at) of what takes this letter's wire, step None for way's end."""
    need_letter(way, index, place)
    rules = way.book().rules()
    steps = way.steps()
    at = place
    for number in range(index, len(steps)):
        source, goal = sides(rules, steps[number])
        across = place_across(at, steps[number][0], len(source), len(goal))
        if across is None:
            return number, at - steps[number][0]
        at = across
    return None, at
