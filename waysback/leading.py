"""Moves by which a way is led to its bare way in the leftmost order."""

from waysback.doing import gone_back, sides
from waysback.exchanges import two_exchanged


def undone_at(rules, steps, step):
    """The index of the one of steps that step, done behind them, undoes; None if it undoes none."""
    now = step
    for index, ahead in reversed(list(enumerate(steps))):
        if ahead == gone_back(now):
            return index
        two = two_exchanged(rules, ahead, now)
        if two is None:
            return None
        now = two[0]
    return None


def left_index(rules, steps, step):
    """Behind how many of steps, which are in the leftmost order, step is done in that order."""
    now = step
    for index, ahead in reversed(list(enumerate(steps))):
        if now[0] + len(sides(rules, now)[0]) > ahead[0]:
            return index + 1
        now = two_exchanged(rules, ahead, now)[0]
    return 0


def led_to(rules, steps, index):
    """The list of steps with the last one led by exchanges to index."""
    told = list(steps)
    for at in reversed(range(index, len(told) - 1)):
        told[at:at + 2] = two_exchanged(rules, told[at], told[at + 1])
    return told


def led_bare(way):
    """The pair of the steps of way made bare, in the leftmost order, and the moves that lead there.

    Each move is told as a pair with the move that undoes it.
    """
    rules = way.book().rules()
    steps = []
    moves = []
    for step in way.steps():
        undone = undone_at(rules, steps, step)
        index = left_index(rules, steps, step) if undone is None else undone + 1
        for at in reversed(range(index, len(steps))):
            moves.append((("exchange", at), ("exchange", at)))
        steps = led_to(rules, steps + [step], index)
        if undone is not None:
            moves.append((("strike", undone), ("put", undone, steps[undone])))
            del steps[undone:undone + 2]
    return steps, moves
