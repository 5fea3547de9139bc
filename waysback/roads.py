"""Roads along wires from the left rim to the right rim: the rows of wires behind beginnings."""


class Roads:
    """The gaps of a picture, and the wires that lead from each, the uppermost first.

    The gaps of the word are 0, its left rim, up to its number of letters, its right rim.
    """

    def __init__(self, many, boxes):
        self._rim = many
        self._left = {wire: wire for wire in range(many)}
        self._right = {wire: wire + 1 for wire in range(many)}
        self._wires = {gap: [gap] for gap in range(many)}
        # All gaps, so that each wire leads to one that stands further to the right.
        self._line = list(range(many + 1))
        for _, _, taken, given in boxes:
            self._add(taken, given)
        self._counts = self._counted()

    def _add(self, taken, given):
        """Adds the wires and the gaps that a box gives."""
        fresh = list(range(len(self._line), len(self._line) + len(given) - 1))
        start = self._left[taken[0]]
        gaps = [start] + fresh + [self._right[taken[-1]]]
        at = self._line.index(start) + 1
        self._line[at:at] = fresh
        for index, wire in enumerate(given):
            self._left[wire] = gaps[index]
            self._right[wire] = gaps[index + 1]
            self._wires.setdefault(gaps[index], []).append(wire)

    def _counted(self):
        """The dict that has, for each gap, how many roads lead from it to the right rim."""
        counts = {self._rim: 1}
        for gap in reversed(self._line):
            if gap != self._rim:
                counts[gap] = sum([counts[self._right[wire]] for wire in self._wires[gap]])
        return counts

    def how_many(self):
        """How many roads there are."""
        return self._counts[0]

    def road(self, number):
        """The list of the wires of the road of this number."""
        told = []
        gap = 0
        left = number
        while gap != self._rim:
            for wire in self._wires[gap]:
                ahead = self._counts[self._right[wire]]
                if left < ahead:
                    break
                left -= ahead
            told.append(wire)
            gap = self._right[wire]
        return told
