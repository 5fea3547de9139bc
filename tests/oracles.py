"""What bare pictures have to tell, worked out here in plain ways from boxes and wires alone."""

from waysback.ways import Way
from waysback.pictures import boxes_of, way_of_boxes
from waysback.wiring import wires


def boxes_by_step(way):
    """The boxes of way, in the order of its steps."""
    return [(step[1], step[2], list(taken), list(given)) for step, (taken, given) in zip(way.steps(), wires(way))]


def pairs_told(way):
    """The idle pairs of way, by trying each pair of boxes."""
    boxes = boxes_by_step(way)
    return [
        (i, j) for i in range(len(boxes)) for j in range(i + 1, len(boxes))
        if boxes[i][0] == boxes[j][0] and boxes[i][1] != boxes[j][1] and boxes[j][2] == boxes[i][3]
    ]


def struck_told(way, pair):
    """The way without these two boxes, what the second gave being what the first took."""
    boxes = boxes_by_step(way)
    first, second = boxes[pair[0]], boxes[pair[1]]
    names = dict(zip(second[3], first[2]))
    left = [
        (rule, turn, [names.get(wire, wire) for wire in taken], given)
        for at, (rule, turn, taken, given) in enumerate(boxes) if at not in pair
    ]
    return way_of_boxes(way.book(), way.word(), left)


def bare_told(way):
    """What is left when the last idle pair is struck as long as there is one."""
    while pairs_told(way):
        way = struck_told(way, pairs_told(way)[-1])
    return way_of_boxes(way.book(), way.word(), boxes_of(way))


def closed_told(boxes, numbers):
    """The sorted list of the indexes of boxes on which these hang, and of themselves."""
    found = set(numbers)
    wanted = {wire for number in numbers for wire in boxes[number][2]}
    while True:
        more = {at for at, box in enumerate(boxes) if wanted & set(box[3])} - found
        if not more:
            return sorted(found)
        found |= more
        wanted |= {wire for at in more for wire in boxes[at][2]}


def part_told(way, numbers):
    """The way of these boxes of a bare way alone."""
    boxes = boxes_of(way)
    return way_of_boxes(way.book(), way.word(), [boxes[number] for number in numbers])


def events_told(way):
    """The events of a bare way's boxes in the leftmost order."""
    boxes = boxes_of(way)
    return [part_told(way, closed_told(boxes, [number])) for number in range(len(boxes))]


def key(way):
    """Something by which equal ways of one book from one word are known."""
    return tuple(way.steps())


def event_keys(way):
    """The set of the keys of all events of way."""
    return {key(event) for event in events_told(bare_told(way))}


def beginnings_told(way):
    """All beginnings of a bare way, as ways, by trying what can be done behind each."""
    boxes = boxes_of(way)
    found = [()]
    for one in found:
        for number in range(len(boxes)):
            if number not in one and set(closed_told(boxes, [number])) <= set(one) | {number}:
                more = tuple(sorted(one + (number,)))
                if more not in found:
                    found.append(more)
    return [part_told(way, numbers) for numbers in found]


def behind_told(way, other):
    """The steps of way gone back, then other's, as a way from way's end."""
    back = [(place, rule, "on" if turn == "back" else "back") for place, rule, turn in way.steps()[::-1]]
    return Way(way.book(), way.end(), back + other.steps())
