"""Bare ways in the leftmost order, as steps are put behind them one after another."""

from waysback.doing import can_do, sides, steps_on, word_behind
from waysback.stocks import Stock
from waysback.ways import Way


class BareLine:
    """A bare way in the leftmost order, at first of no steps, that goes on as long as it stays one."""

    def __init__(self, book, word):
        self._book = book
        self._rules = book.rules()
        self._word = word
        self._end = word
        self._steps = []
        self._stock = Stock(book, word)
        self._row = list(range(len(word)))
        self._lot = {}

    def fits(self, thing):
        """Whether any object is a step by which the way goes on and stays bare and leftmost."""
        if not can_do(self._rules, self._end, thing):
            return False
        stop = thing[0] + len(sides(self._rules, thing)[0])
        # A step all to the left of the last one would be done ahead of it.
        if self._steps != [] and stop <= self._steps[-1][0]:
            return False
        return len(self._led_on(thing)[1]) > len(self._lot)

    def _led_on(self, step):
        """The row of wires and the lot behind a step."""
        return self._stock.gone_on(self._row, self._lot, [step])

    def fitting(self):
        """The list of all steps that fit, ascending."""
        return [step for step in steps_on(self._rules, self._end) if self.fits(step)]

    def go(self, step):
        """Goes on by a step that fits."""
        self._row, self._lot = self._led_on(step)
        self._end = word_behind(self._rules, self._end, step)
        self._steps.append(step)

    def way(self):
        """The way as it is now."""
        return Way(self._book, self._word, self._steps)
