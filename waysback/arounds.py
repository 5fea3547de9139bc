"""Straight rounds seen around: their items, and the boxes of a part, copies of a box as one."""

from waysback.boxes import way_boxes
from waysback.doing import all_back
from waysback.pieces import piece_from, roots_of
from waysback.stocks import bare_way, stock_from
from waysback.straights import Strip
from waysback.wiring import wires_and_end


def flooded(near):
    """The dict of each key of near with the first key with which it hangs together by near ones."""
    labels = {}
    for start in near:
        found = [] if start in labels else [start]
        at = 0
        while at < len(found):
            if found[at] not in labels:
                labels[found[at]] = start
                found.extend(near[found[at]])
            at += 1
    return labels


def part_labels(core, root):
    """The list that has, letter by letter, None for a circle, else one number for all of a part."""
    _, row = wires_and_end(core)
    near = {letter: [root[letter]] for letter in range(len(row))}
    for place, wire in enumerate(row):
        near[root[place]].append(place)
        # What stands here at the end is the letter of this place in the next copy.
        near[place].append(root[wire])
        near[root[wire]].append(place)
    labels = flooded(near)
    return [None if wire == place else labels[place] for place, wire in enumerate(row)]


def stretches(labels):
    """The list of the pairs (start, stop) between which labels are the same, from left to right."""
    many = len(labels)
    starts = [place for place in range(many) if place == 0 or labels[place] != labels[place - 1]]
    return list(zip(starts, starts[1:] + [many]))


def items_of(core):
    """The list of the triples (start, stop, round) of a straight round's items, from left to right.

    The round is that at the item's letters: it has no steps just if these are circles.
    """
    boxes = way_boxes(core)
    root = roots_of(len(core.word()), boxes)
    labels = part_labels(core, root)
    told = []
    for start, stop in stretches(labels):
        own = [box for box in boxes if labels[root[box[2][0]]] == labels[start]]
        told.append((start, stop, piece_from(core, start, stop, own)))
    return told


class Around:
    """A straight round of one part alone, without beginning and end.

    Its boxes are told by the indexes of the round's steps. A LINK of a box is a triple: the box at
    the other end of one of its wires, as which one that box has the wire, and how many copies
    further on that box is. Links stand in the order of the wires.
    """

    def __init__(self, way):
        self._way = way
        steps = way.steps()
        strip = Strip(way)
        self._kinds = [(rule, turn) for _, rule, turn in steps]
        self._behind = []
        ahead = [{} for _ in steps]
        for index in range(len(steps)):
            links = []
            for which, wire in enumerate(strip.given(index)):
                copies, other, at = strip.taker(wire)
                links.append((other, at, copies))
                ahead[other][at] = (index, which, -copies)
            self._behind.append(links)
        self._ahead = [[links[at] for at in range(len(links))] for links in ahead]

    def way(self):
        """The round."""
        return self._way

    def links(self, box):
        """The list of the links along what a box takes, and then along what it gives."""
        return self._ahead[box] + self._behind[box]

    def seam(self):
        """The list of the pairs (box, copy) of what gives the letters of the word, in copies below 0."""
        wires, row = wires_and_end(self._way)
        givers = {wire: index for index, (_, given) in enumerate(wires) for wire in given}
        told = []
        for place in range(len(row)):
            wire = row[place]
            copy = -1
            while wire not in givers:
                wire = row[wire]
                copy -= 1
            told.append((givers[wire], copy))
        return told

    def _met_from(self, start):
        """The list of the boxes in the order in which they are met from start on."""
        found = [start]
        met = {start: True}
        at = 0
        while at < len(found):
            links = self.links(found[at])
            for other, _, _ in links:
                if other not in met:
                    met[other] = True
                    found.append(other)
            at += 1
        return found

    def _told_from(self, start):
        """The list of the boxes, as a ring tells them, from start on."""
        found = self._met_from(start)
        numbers = {box: number for number, box in enumerate(found)}
        told = []
        for box in found:
            rule, turn = self._kinds[box]
            taken = [(numbers[other], which) for other, which, _ in self._ahead[box]]
            given = [(numbers[other], which) for other, which, _ in self._behind[box]]
            told.append((rule, turn, taken, given))
        return told

    def least(self):
        """The least list that tells the boxes, and the list of the boxes from which on it does."""
        # It begins with a box of the least kind.
        least = min(self._kinds)
        tellings = [(self._told_from(box), box) for box, kind in enumerate(self._kinds) if kind == least]
        told = min(tellings)[0]
        return told, [box for telling, box in tellings if telling == told]


def turns_of(item):
    """How often the round of an item of a straight round goes around its part, 0 for circles."""
    if item.steps() == []:
        return 0
    return len(Around(item).least()[1])


def laid_on(around, start, other, begun):
    """The dict that tells of each box of other, in copy 0, which box of around it is, in which copy.

    Begun is start, in copy 0; both are told alike from these boxes on.
    """
    told = {begun: (start, 0)}
    found = [begun]
    at = 0
    while at < len(found):
        box, copy = told[found[at]]
        pairs = list(zip(other.links(found[at]), around.links(box)))
        for theirs, mine in pairs:
            if theirs[0] not in told:
                told[theirs[0]] = (mine[0], copy + mine[2] - theirs[2])
                found.append(theirs[0])
        at += 1
    return told


def way_between(around, other, laid):
    """The bare way from around's seam to other's, laid on around.

    It carries the one round to the other.
    """
    seam = [(laid[box], copy) for box, copy in other.seam()]
    row = [(box, further + copy) for (box, further), copy in seam]
    first = min([copy for _, copy in row])
    way = around.way()
    steps = way.steps()
    stock = stock_from(way)
    # So many copies further on it lies behind around's seam: there it is what its boxes hang on.
    stock.lot_of(steps * (1 + max([copy for _, copy in row]) - first))
    ahead = stock.way_of(stock.closed([box + (copy - first) * len(steps) for box, copy in row])).steps()
    back = all_back(steps) * max(0, -first)
    return bare_way(way.book(), way.word(), back + steps * max(0, first) + ahead)
