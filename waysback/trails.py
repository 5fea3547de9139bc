"""Steps from a word on, as moves change them one after another."""

from waysback.doing import can_do, gone_back, has_step, steps_on, word_behind
from waysback.exchanges import two_exchanged
from waysback.words import is_number, is_row


class Trail:
    """The steps of a way, and the words along it, which moves change."""

    def __init__(self, way):
        self._rules = way.book().rules()
        self._row = way.steps()
        self._along = way.words()

    def row(self):
        """The list of the steps as they are now."""
        return list(self._row)

    def apart(self):
        """The list of the indexes at which two steps can be exchanged now."""
        many = len(self._row) - 1
        return [index for index in range(many) if self._exchange_of(index) is not None]

    def undone(self):
        """The list of the indexes at which two steps can be struck now."""
        return [index for index in range(len(self._row) - 1) if self._is_undone(index)]

    def open_to_steps(self):
        """The list of the indexes at which some step can be put in now."""
        return [index for index, word in enumerate(self._along) if has_step(self._rules, word)]

    def steps_at(self, index):
        """The list of the steps that can be put in at index now, ascending."""
        return steps_on(self._rules, self._along[index])

    def do(self, thing):
        """Does a move; whether any object is one that can be done now."""
        if not is_row(thing) or len(thing) not in (2, 3) or not is_number(thing[1]):
            return False
        kind, index = thing[:2]
        if len(thing) == 3:
            return kind == "put" and self._put(index, thing[2])
        if index + 1 >= len(self._row):
            return False
        if kind == "exchange":
            return self._exchange(index)
        return kind == "strike" and self._strike(index)

    def _exchange_of(self, index):
        """The steps index and index + 1 in the other order, None if they are not apart."""
        return two_exchanged(self._rules, self._row[index], self._row[index + 1])

    def _exchange(self, index):
        """Exchanges the steps index and index + 1; whether they are apart."""
        two = self._exchange_of(index)
        if two is None:
            return False
        self._row[index:index + 2] = two
        self._along[index + 1] = word_behind(self._rules, self._along[index], two[0])
        return True

    def _is_undone(self, index):
        """Whether the step index + 1 is the step index gone back."""
        return self._row[index + 1] == gone_back(self._row[index])

    def _strike(self, index):
        """Strikes the steps index and index + 1; whether the second is the first gone back."""
        if not self._is_undone(index):
            return False
        del self._row[index:index + 2]
        del self._along[index + 1:index + 3]
        return True

    def _put(self, index, step):
        """Puts step, and step gone back, in ahead of step index; whether it can be done there."""
        if index > len(self._row) or not can_do(self._rules, self._along[index], step):
            return False
        word = self._along[index]
        self._row[index:index] = [tuple(step), gone_back(step)]
        self._along[index + 1:index + 1] = [word_behind(self._rules, word, step), word]
        return True


def first_unmoved(trail, moves):
    """Does moves as long as they can be done; the index of the first that can't, None if all can."""
    for index, move in enumerate(moves):
        if not trail.do(move):
            return index
    return None
