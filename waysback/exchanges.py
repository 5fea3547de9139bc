"""Exchanges of two steps that are next to one another, and apart."""

from waysback.doing import sides
from waysback.errors import BadIndex, NotApart
from waysback.ways import Way, need_way
from waysback.words import is_number


def need_two(way, index):
    """Raises what is due if way has no steps index and index + 1."""
    need_way(way)
    if not is_number(index) or index + 1 >= len(way.steps()):
        raise BadIndex(index)


def two_exchanged(rules, first, second):
    """Two steps, one done behind the other, in the other order, None if they are not apart."""
    first_source, first_goal = sides(rules, first)
    second_source, second_goal = sides(rules, second)
    if second[0] + len(second_source) <= first[0]:
        moved = first[0] + len(second_goal) - len(second_source)
        return [second, (moved, first[1], first[2])]
    if second[0] >= first[0] + len(first_goal):
        moved = second[0] - len(first_goal) + len(first_source)
        return [(moved, second[1], second[2]), first]
    return None


def is_apart(way, index):
    """Whether the second of the steps index and index + 1 takes no wire that the first gives."""
    need_two(way, index)
    first, second = way.steps()[index:index + 2]
    return two_exchanged(way.book().rules(), first, second) is not None


def exchanged(way, index):
    """The way that does step index + 1 ahead of step index."""
    need_two(way, index)
    steps = way.steps()
    two = two_exchanged(way.book().rules(), steps[index], steps[index + 1])
    if two is None:
        raise NotApart(index)
    return Way(way.book(), way.word(), steps[:index] + two + steps[index + 2:])
