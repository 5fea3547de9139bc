"""What a session has at one time: the line of all, hands with their bases and lines, what is watched."""


class Desk:
    """The state of a session; it never changes, what changes it is told as another one.

    Hands are kept by their names, each with the pair (base, line), what is watched by the
    question, each with whether it is held, both in the order in which they came.
    """

    def __init__(self, common, hands, watched):
        self._common = common
        self._hands = hands
        self._watched = watched

    def __eq__(self, other):
        return (
            isinstance(other, Desk)
            and self._common == other._common
            and list(self._hands.items()) == list(other._hands.items())
            and list(self._watched.items()) == list(other._watched.items())
        )

    def names(self):
        """The list of the names of the hands."""
        return list(self._hands)

    def is_hand(self, thing):
        """Whether any object is a hand's name."""
        return isinstance(thing, str) and thing in self._hands

    def is_who(self, thing):
        """Whether any object is a hand's name, or "all"."""
        return self.is_hand(thing) or (isinstance(thing, str) and thing == "all")

    def base_of(self, hand):
        """The way of the base of a hand."""
        return self._hands[hand][0]

    def line_of(self, who):
        """The way of the line of a hand, or of all."""
        if who == "all":
            return self._common
        return self._hands[who][1]

    def questions(self):
        """The list of the questions that are watched."""
        return list(self._watched)

    def is_watched(self, question):
        """Whether a question is watched."""
        return question in self._watched

    def is_held(self, question):
        """Whether a question is held."""
        return self._watched.get(question, False)

    def with_common(self, common):
        """The same with another line of all."""
        return Desk(common, self._hands, self._watched)

    def with_hand(self, hand, base, line):
        """The same with this base and line of a hand, the last one if it is new."""
        hands = {name: pair for name, pair in self._hands.items()}
        hands[hand] = (base, line)
        return Desk(self._common, hands, self._watched)

    def without_hand(self, hand):
        """The same without a hand."""
        hands = {name: pair for name, pair in self._hands.items() if name != hand}
        return Desk(self._common, hands, self._watched)

    def with_question(self, question, held):
        """The same with a question watched, in its place if it is already, else the last one."""
        watched = {one: each for one, each in self._watched.items()}
        watched[question] = held
        return Desk(self._common, self._hands, watched)

    def without_question(self, question):
        """The same without a question watched."""
        watched = {one: each for one, each in self._watched.items() if one != question}
        return Desk(self._common, self._hands, watched)
