"""The strip of a round, what is idle around it, and rounds carried to straight ones."""

from waysback.doing import all_back, gone_back
from waysback.stocks import bare_way
from waysback.ways import Way, need_round
from waysback.wiring import wires_and_end


class Strip:
    """A round behind itself without end: which step takes what, and how many copies further on."""

    def __init__(self, way):
        self._wires, row = wires_and_end(way)
        self._takers = {}
        for index, (taken, _) in enumerate(self._wires):
            for at, wire in enumerate(taken):
                self._takers[wire] = (index, at)
        # Where a wire stands at the end it is, in the next copy, the wire of this letter.
        self._places = {wire: place for place, wire in enumerate(row)}

    def taker(self, wire):
        """Of a wire that a step gives: (copies further on, the step that takes it, as which one)."""
        copies = 0
        now = wire
        while now not in self._takers:
            now = self._places[now]
            copies += 1
        return copies, self._takers[now][0], self._takers[now][1]

    def places(self, wire, copies):
        """The places at which a wire stands at the ends of so many copies, its own one first."""
        told = []
        now = wire
        for _ in range(copies):
            now = self._places[now]
            told.append(now)
        return told

    def circles(self):
        """The dict that has True for each letter's place that stands still, copy for copy."""
        return {place: True for wire, place in self._places.items() if wire == place}

    def given(self, index):
        """The list of the wires that a step gives."""
        return list(self._wires[index][1])


def pairs_of(way, strip):
    """The list of the triples (i, j, n) of way's strip, ascending, whose second box undoes the first."""
    steps = way.steps()
    told = []
    for index, step in enumerate(steps):
        given = strip.given(index)
        copies, other, _ = strip.taker(given[0])
        undoing = steps[other][1:] == gone_back(step)[1:]
        if undoing and [strip.taker(wire) for wire in given] == [(copies, other, at) for at in range(len(given))]:
            told.append((index, other, copies))
    return told


def strip_pairs(way):
    """The list of the triples (i, j, n), ascending, whose second box undoes the first, n copies on."""
    need_round(way)
    return pairs_of(way, Strip(way))


def is_straight(way):
    """Whether nothing is idle in the strip of the round way."""
    return strip_pairs(way) == []


def carried_by(way, steps):
    """The bare way, in the leftmost order, to which a round is carried by these steps."""
    other = Way(way.book(), way.word(), steps)
    return bare_way(way.book(), other.end(), all_back(steps) + way.steps() + steps)


def bringing(way, strip, pair):
    """Steps that carry the bare round way so that both boxes of this pair come into one copy.

    All that the second box of the pair takes stands at the seam in n copies, from the n copies
    ahead: so it can be done there n times, each of them at other letters.
    """
    first, second, copies = pair
    _, rule, turn = way.steps()[second]
    places = strip.places(strip.given(first)[0], copies)
    # From the right, so that no place is moved ahead of its turn.
    return [(place, rule, turn) for place in sorted(places, reverse=True)]


def straight(way):
    """A pair (x, S): a way that carries way to a round alike to S, S straight."""
    need_round(way)
    now = bare_way(way.book(), way.word(), way.steps())
    steps = []
    while True:
        strip = Strip(now)
        pairs = pairs_of(now, strip)
        if pairs == []:
            return bare_way(way.book(), way.word(), steps), now
        nearest = min([(pair[2], pair) for pair in pairs])[1]
        more = bringing(now, strip, nearest)
        now = carried_by(now, more)
        steps.extend(more)


def fewest_carried(way):
    """The number of boxes of the straight rounds to which way is carried."""
    return len(straight(way)[1].steps())
