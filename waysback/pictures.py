"""Pictures: words and boxes, in whatever order they are done."""

from waysback.books import need_book
from waysback.boxes import leftmost_order, steps_of, way_boxes
from waysback.doing import sides
from waysback.errors import BadBoxes
from waysback.ways import Way, need_other, need_way
from waysback.words import TURNS, is_number, is_row, need_word


def leftmost(way):
    """The way of the same picture that always does the leftmost box next."""
    need_way(way)
    boxes = way_boxes(way)
    order = leftmost_order(len(way.word()), boxes)
    return Way(way.book(), way.word(), steps_of(order, boxes))


def boxes_of(way):
    """The list of the boxes of way's picture, in the leftmost order."""
    return way_boxes(leftmost(way))


def same_picture(way, other):
    """Whether both ways have one picture."""
    need_way(way)
    need_other(way, other)
    return leftmost(way) == leftmost(other)


def is_wires(thing, many):
    """Whether thing is a list of just so many numbers."""
    return is_row(thing) and len(thing) == many and all([is_number(wire) for wire in thing])


def is_box(rules, thing):
    """Whether thing is a tuple (rule, turn, taken, given) with as many wires as letters."""
    if not is_row(thing) or len(thing) != 4:
        return False
    rule, turn, taken, given = thing
    if not is_number(rule) or rule >= len(rules) or turn not in TURNS:
        return False
    source, goal = sides(rules, (0, rule, turn))
    return is_wires(taken, len(source)) and is_wires(given, len(goal))


def add_new(row, known):
    """Adds the wires of row to the dict known; whether none of them was there."""
    for wire in row:
        if wire in known:
            return False
        known[wire] = True
    return True


def boxes_read(rules, many, boxes):
    """The list of boxes; BadBoxes if one has not the form, or a wire is given or taken twice."""
    if not is_row(boxes):
        raise BadBoxes(0)
    given = {wire: True for wire in range(many)}
    taken = {}
    told = []
    for index, box in enumerate(boxes):
        if not is_box(rules, box) or not add_new(box[3], given) or not add_new(box[2], taken):
            raise BadBoxes(index)
        told.append((box[0], box[1], list(box[2]), list(box[3])))
    return told


def fitting(rules, word, boxes):
    """The list of the indexes of boxes whose wires have the letters of their sources."""
    letters = dict(enumerate(word))
    for rule, turn, _, given in boxes:
        for wire, letter in zip(given, sides(rules, (0, rule, turn))[1]):
            letters[wire] = letter
    told = []
    for index, (rule, turn, taken, _) in enumerate(boxes):
        source = sides(rules, (0, rule, turn))[0]
        if [letters.get(wire) for wire in taken] == list(source):
            told.append(index)
    return told


def way_of_boxes(book, word, boxes):
    """The way, in the leftmost order, that has these boxes."""
    need_book(book)
    need_word(word)
    rules = book.rules()
    told = boxes_read(rules, len(word), boxes)
    fit = fitting(rules, word, told)
    order = leftmost_order(len(word), [told[index] for index in fit])
    reached = [fit[at] for _, at in order]
    left = [index for index in range(len(told)) if index not in reached]
    if left != []:
        raise BadBoxes(left[0])
    return Way(book, word, steps_of(order, told))
