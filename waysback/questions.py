"""Questions that a session can be asked, and their answers."""

from waysback.commuting import commute
from waysback.likeness import alike, distance
from waysback.merges import merged
from waysback.middles import middle
from waysback.roots import root_number
from waysback.rounds import is_round
from waysback.words import is_row

# Of how many hands, or all, each kind of question is asked.
KINDS = {"end": 1, "round": 1, "root": 1, "fits": 1, "alike": 2, "far": 2, "commute": 2, "middle": 3}


def can_be_asked(desk, thing):
    """Whether any object is a question now."""
    if not is_row(thing) or len(thing) == 0 or not isinstance(thing[0], str):
        return False
    kind, parts = thing[0], thing[1:]
    if kind == "fits":
        return len(parts) == 1 and desk.is_hand(parts[0])
    return len(parts) == KINDS.get(kind) and all([desk.is_who(part) for part in parts])


def all_questions(desk):
    """The list of all questions there are now."""
    names = desk.names()
    told = []
    for kind, many in KINDS.items():
        asked = names if kind == "fits" else ["all"] + names
        rows = [[kind]]
        for _ in range(many):
            rows = [row + [who] for row in rows for who in asked]
        told.extend([tuple(row) for row in rows])
    return told


def given_by(desk, hand):
    """What merged tells of a hand's base, its line and the line of all."""
    return merged(desk.base_of(hand), [desk.line_of(hand), desk.line_of("all")])


def odds_of(told):
    """("odds", i, j) of what merged tells of two lines at odds."""
    return ("odds", told[3], told[4])


def answer_of_rounds(kind, lines):
    """The answer to a question of this kind that is None if one of the lines is no round."""
    if not all([is_round(line) for line in lines]):
        return None
    if kind == "root":
        return root_number(lines[0])
    return commute(lines[0], lines[1])


def answer_to(desk, question):
    """The answer to a question that is one now."""
    kind = question[0]
    lines = [desk.line_of(who) for who in question[1:]]
    if kind in ("root", "commute"):
        return answer_of_rounds(kind, lines)
    if kind == "end":
        return lines[0].end()
    if kind == "round":
        return is_round(lines[0])
    if kind == "alike":
        return alike(lines[0], lines[1])
    if kind == "far":
        return distance(lines[0], lines[1])
    if kind == "middle":
        return middle(lines[0], lines[1], lines[2]).steps()
    return given_by(desk, question[1])[0] == "way"
