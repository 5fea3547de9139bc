"""Orders of steps that hang on one another, counted part by part."""

from math import comb

# A lot of steps is kept as an integer: the bit of each step's index is 1 if it is in the lot.


def steps_in(lot, many):
    """The list of the indexes of the steps in lot, ascending, of so many."""
    return [index for index in range(many) if (lot >> index) & 1]


def size_of(lot):
    """How many steps are in lot."""
    bits = f"{lot:b}"
    return bits.count("1")


def near_lots(lots):
    """The list that has, for each step, the lot of itself, what it hangs on and what hangs on it."""
    told = []
    for index, lot in enumerate(lots):
        told.append(lot | (1 << index))
        for other in steps_in(lot, index):
            told[other] = told[other] | (1 << index)
    return told


class Orders:
    """How many orders there are of steps that hang on the steps of these lots.

    Steps fall into PIECES that hang together: each is ordered for itself, and the orders of
    several pieces are mixed in all ways. A KNOT of a piece is a step that hangs on each other one
    of it, or that one on it: what is ahead of it and what is behind it are ordered apart. What
    falls into no pieces and has no knot is counted by going through all that can be done first.
    """

    def __init__(self, lots):
        self._lots = lots
        self._near = near_lots(lots)
        self._all = (1 << len(lots)) - 1
        # How each lot of several steps is put together, and of what lots.
        self._made = {}
        # For what is put together of none: in how many orders what is left can be done.
        self._left = {}
        self._take_apart()

    def _pieces(self, lot):
        """The list of the pieces of lot."""
        told = []
        left = lot
        while left != 0:
            piece = 0
            edge = left & -left
            while edge != 0:
                index = (edge & -edge).bit_length() - 1
                piece = piece | (1 << index)
                edge = (edge | self._near[index] & lot) & ~piece
            told.append(piece)
            left = left & ~piece
        return told

    def _rows(self, piece):
        """The list of the knots of a piece, and of the lots between them, in their order."""
        told = []
        start = 0
        for index, near in enumerate(self._near):
            if (piece >> index) & 1 and near & piece == piece:
                told.extend([piece & ((1 << index) - (1 << start)), 1 << index])
                start = index + 1
        told.append(piece >> start << start)
        return [lot for lot in told if lot != 0]

    def _firsts(self, lot):
        """The list of the steps of lot that hang on none of it, ascending."""
        return [
            index for index, ahead in enumerate(self._lots)
            if (lot >> index) & 1 and ahead & lot == 0
        ]

    def _counts(self, lot):
        """The dict that has, for each part of lot that can be done last, how many orders it has."""
        less = {}
        found = [lot]
        at = 0
        while at < len(found):
            left = found[at]
            if left not in less:
                less[left] = [left & ~(1 << index) for index in self._firsts(left)]
                found.extend(less[left])
            at += 1
        counts = {0: 1}
        for left in sorted(less):
            if left != 0:
                counts[left] = sum([counts[part] for part in less[left]])
        return counts

    def _take_apart(self):
        """Takes the lot of all steps apart, and each that is got, as far as they fall apart."""
        found = [self._all]
        at = 0
        while at < len(found):
            lot = found[at]
            how = "mixed"
            parts = self._pieces(lot)
            if len(parts) == 1:
                how = "behind"
                parts = self._rows(lot)
            if len(parts) == 1:
                how = "alone"
                parts = []
                self._left[lot] = self._counts(lot)
            self._made[lot] = (how, parts)
            found.extend([part for part in parts if size_of(part) > 1])
            at += 1

    def how_many(self):
        """How many orders all the steps have."""
        counts = {}
        # Parts of a lot are lesser numbers.
        for lot in sorted(self._made):
            how, parts = self._made[lot]
            many = self._left[lot][lot] if how == "alone" else 1
            total = 0
            for part in parts:
                many *= counts.get(part, 1)
                total += size_of(part)
                if how == "mixed":
                    many *= comb(total, size_of(part))
            counts[lot] = many
        return counts[self._all]

    def _by_first_of(self, lot, done, whole):
        """What by_first tells, of those steps alone that are in lot."""
        left = lot & ~done
        firsts = self._firsts(left)
        if len(firsts) < 2:
            return [(index, whole) for index in firsts]
        how, parts = self._made[lot]
        told = []
        if how == "alone":
            counts = self._left[lot]
            for index in firsts:
                told.append((index, whole * counts[left & ~(1 << index)] // counts[left]))
        elif how == "behind":
            ahead = [part for part in parts if part & left != 0]
            told.extend(self._by_first_of(ahead[0], done, whole))
        else:
            for part in parts:
                # Of all ways of mixing so great a part begins with this piece as it has of the steps.
                mixed = whole * size_of(part & left) // size_of(left)
                told.extend(self._by_first_of(part, done, mixed))
        return told

    def by_first(self, done, whole):
        """The list of the pairs (step, how many orders go on with it), ascending.

        Done is the lot of the steps that are done, whole how many orders the others have.
        """
        return sorted(self._by_first_of(self._all, done, whole))
