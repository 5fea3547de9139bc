"""Single steps done on words, by a book's list of rules."""

from waysback.words import TURNS, is_step


def sides(rules, step):
    """The pair (source, goal) of a step by one of rules."""
    left, right = rules[step[1]]
    if step[2] == "on":
        return left, right
    return right, left


def can_do(rules, word, thing):
    """Whether any object is a step that can be done on word."""
    if not is_step(thing) or thing[1] >= len(rules):
        return False
    place = thing[0]
    source, _ = sides(rules, thing)
    return word[place:place + len(source)] == source


def word_behind(rules, word, step):
    """The word behind a step that can be done on word."""
    source, goal = sides(rules, step)
    place = step[0]
    return word[:place] + goal + word[place + len(source):]


def steps_on(rules, word):
    """The list of all steps that can be done on word, ascending."""
    told = []
    for rule in range(len(rules)):
        for turn in TURNS:
            source, _ = sides(rules, (0, rule, turn))
            place = word.find(source)
            while place >= 0:
                told.append((place, rule, turn))
                place = word.find(source, place + 1)
    return sorted(told)


def has_step(rules, word):
    """Whether any step can be done on word."""
    return any([left in word or right in word for left, right in rules])


def gone_back(step):
    """The step that undoes step."""
    place, rule, turn = step
    if turn == "on":
        return place, rule, "back"
    return place, rule, "on"


def all_back(steps):
    """The list of the steps that undo all of steps, the last one first."""
    return [gone_back(step) for step in reversed(steps)]
