"""Bare pictures from one word, with the boxes that are the same in several of them known as such."""

from waysback.boxes import leftmost_order, steps_of
from waysback.doing import sides
from waysback.ways import Way, need_other, need_way


class Stock:
    """The boxes of bare pictures of a book's ways from one word, each told by one number.

    A box has a greater number than all on which it hangs. A LOT is a dict of such numbers, each
    with True. A wire has one number wherever it stands: from 0 on the letters of the word, and on
    from there what the boxes of the stock give.
    """

    def __init__(self, book, word):
        self._book = book
        self._word = word
        self._rules = book.rules()
        self._boxes = []
        self._numbers = {}
        self._givers = {}
        self._fresh = len(word)

    def box(self, number):
        """The box of this number: (rule, turn, taken, given)."""
        return self._boxes[number]

    def giver(self, wire):
        """The number of the box that gives this wire, None for a letter of the word."""
        return self._givers.get(wire)

    def _number_of(self, rule, turn, taken):
        """The number of the box of this rule and turn that takes these wires."""
        key = (rule, turn, tuple(taken))
        if key not in self._numbers:
            number = len(self._boxes)
            many = len(sides(self._rules, (0, rule, turn))[1])
            given = list(range(self._fresh, self._fresh + many))
            self._fresh += many
            self._numbers[key] = number
            self._boxes.append((rule, turn, taken, given))
            for wire in given:
                self._givers[wire] = number
        return self._numbers[key]

    def _undone(self, rule, turn, taken):
        """The number of the box that a box of this rule and turn undoes by taking these wires."""
        number = self.giver(taken[0])
        if number is None:
            return None
        box = self._boxes[number]
        if box[0] == rule and box[1] != turn and box[3] == taken:
            return number
        return None

    def gone_on(self, row, lot, steps):
        """The row of wires and the lot to which steps lead on from these."""
        row = list(row)
        lot = {number: True for number in lot}
        for place, rule, turn in steps:
            stop = place + len(sides(self._rules, (place, rule, turn))[0])
            taken = row[place:stop]
            # What is bare, and goes on by one box, has no idle pair but of this box and a last one.
            undone = self._undone(rule, turn, taken)
            if undone is None:
                number = self._number_of(rule, turn, taken)
                lot[number] = True
                row[place:stop] = self._boxes[number][3]
            else:
                del lot[undone]
                row[place:stop] = self._boxes[undone][2]
        return row, lot

    def lot_of(self, steps):
        """The lot of the boxes that the bare picture of these steps from the word has."""
        return self.gone_on(list(range(len(self._word))), {}, steps)[1]

    def closed(self, numbers):
        """The lot of these boxes and of all on which they hang."""
        found = list(numbers)
        lot = {number: True for number in found}
        at = 0
        while at < len(found):
            taken = self._boxes[found[at]][2]
            for wire in taken:
                number = self.giver(wire)
                if number is not None and number not in lot:
                    lot[number] = True
                    found.append(number)
            at += 1
        return lot

    def _order(self, lot):
        """The list of the pairs (place, number) by which the lot is done, leftmost first."""
        numbers = list(lot)
        boxes = [self._boxes[number] for number in numbers]
        order = leftmost_order(len(self._word), boxes)
        return [(place, numbers[index]) for place, index in order]

    def in_order(self, lot):
        """The list of the numbers of the lot's boxes in the leftmost order."""
        return [number for _, number in self._order(lot)]

    def way_of(self, lot):
        """The bare way, in the leftmost order, that has the boxes of the lot."""
        return Way(self._book, self._word, steps_of(self._order(lot), self._boxes))


def stock_from(way):
    """A new stock of the pictures from way's word."""
    return Stock(way.book(), way.word())


def bare_way(book, word, steps):
    """The bare way, in the leftmost order, of the way of these steps from word."""
    stock = Stock(book, word)
    return stock.way_of(stock.lot_of(steps))


def two_lots(way, other):
    """A stock, and the lots of both ways in it; raises what is due if they are none."""
    need_way(way)
    need_other(way, other)
    stock = stock_from(way)
    return stock, stock.lot_of(way.steps()), stock.lot_of(other.steps())
