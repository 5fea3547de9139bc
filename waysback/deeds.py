"""Deeds of a session: which objects are one, and what there is behind each."""

from waysback.doing import can_do
from waysback.errors import BadQuestion, InUse, IsWatched, NotNow, NotWatched
from waysback.merges import struck_out
from waysback.names import is_name
from waysback.questions import answer_to, can_be_asked, given_by, odds_of
from waysback.stocks import bare_way
from waysback.words import is_number, is_row, is_step

# Of what each kind of deed is told.
PARTS = {
    "come": ("hand",),
    "go": ("hand",),
    "step": ("hand", "step"),
    "strike": ("hand", "index"),
    "drop": ("hand",),
    "take": ("hand",),
    "give": ("hand",),
    "watch": ("question",),
    "hold": ("question",),
    "free": ("question",),
}


def is_part(part, thing):
    """Whether any object may stand for a part of a deed."""
    if part == "hand":
        return is_name(thing)
    if part == "step":
        return is_step(thing)
    return part == "question" or is_number(thing)


def is_deed(thing):
    """Whether any object is a deed, whether or not it can be done."""
    if not is_row(thing) or len(thing) == 0 or not isinstance(thing[0], str):
        return False
    parts = PARTS.get(thing[0])
    if parts is None or len(thing) - 1 != len(parts):
        return False
    return all([is_part(part, one) for part, one in zip(parts, thing[1:])])


def deed_told(deed):
    """A deed as tuples, its step, or its question, too."""
    return tuple([tuple(part) if is_row(part) else part for part in deed])


def behind_watching(desk, kind, thing):
    """The desk behind a deed of questions."""
    if not can_be_asked(desk, thing):
        raise BadQuestion(thing)
    question = tuple(thing)
    if kind == "free":
        if not desk.is_watched(question):
            raise NotWatched(question)
        return desk.without_question(question)
    if desk.is_held(question) or (kind == "watch" and desk.is_watched(question)):
        raise IsWatched(question)
    return desk.with_question(question, kind == "hold")


def behind_step(desk, hand, step):
    """The desk behind a step of a hand's line."""
    line = desk.line_of(hand)
    if not can_do(line.book().rules(), line.end(), step):
        raise NotNow(("step", step))
    longer = bare_way(line.book(), line.word(), line.steps() + [step])
    return desk.with_hand(hand, desk.base_of(hand), longer)


def behind_strike(desk, hand, index):
    """The desk behind a step of a hand's line struck out."""
    line = desk.line_of(hand)
    if index >= len(line.steps()):
        raise NotNow(("index", index))
    return desk.with_hand(hand, desk.base_of(hand), struck_out(line, index)[0])


def behind_merge(desk, kind, hand):
    """The desk behind a hand's taking, or giving."""
    told = given_by(desk, hand)
    if told[0] == "odds":
        raise NotNow(odds_of(told))
    if kind == "take":
        return desk.with_hand(hand, desk.line_of("all"), told[1])
    return desk.with_common(told[1]).with_hand(hand, told[1], told[1])


def behind_go(desk, hand):
    """The desk behind a hand's going."""
    left = desk.without_hand(hand)
    for question in desk.questions():
        if not can_be_asked(left, question):
            raise InUse(question)
    return left


def behind_lines(desk, deed):
    """The desk behind a deed, told as tuples, of a hand that is there."""
    kind, hand = deed[:2]
    if kind == "go":
        return behind_go(desk, hand)
    if kind == "step":
        return behind_step(desk, hand, deed[2])
    if kind == "strike":
        return behind_strike(desk, hand, deed[2])
    if kind == "drop":
        return desk.with_hand(hand, desk.base_of(hand), desk.base_of(hand))
    return behind_merge(desk, kind, hand)


def desk_behind(desk, deed):
    """The desk behind a deed; raises what is due if it cannot be done now, but for what is held."""
    kind, one = deed[:2]
    if kind in ("watch", "hold", "free"):
        return behind_watching(desk, kind, one)
    if kind != "come":
        if not desk.is_hand(one):
            raise NotNow(("none", one))
        return behind_lines(desk, deed_told(deed))
    if desk.is_hand(one):
        raise NotNow(("hand", one))
    return desk.with_hand(one, desk.line_of("all"), desk.line_of("all"))


def answers_changed(desk, behind):
    """The list of the triples (question, ahead, behind) of what is watched and answered otherwise behind."""
    told = []
    for question in behind.questions():
        first, second = answer_to(desk, question), answer_to(behind, question)
        if first != second:
            told.append((question, first, second))
    return told


def why_changed(behind, change):
    """Why a question that is held, answered otherwise behind, must not change."""
    question, first, second = change
    if question[0] == "fits" and first:
        return odds_of(given_by(behind, question[1]))
    return first, second
