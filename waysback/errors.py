"""The errors of the package: each keeps the very objects that it is made with."""


class WayError(ValueError):
    """What all errors of the package are."""


class BadBook(WayError):
    """A thing that is no Book."""

    def __init__(self, thing):
        self.thing = thing


class BadBoxes(WayError):
    """The first thing that is no box, or the first box that is left."""

    def __init__(self, index):
        self.index = index


class BadDeed(WayError):
    """A thing that is no deed."""

    def __init__(self, deed):
        self.deed = deed


class BadEvents(WayError):
    """The first thing that is no event."""

    def __init__(self, index):
        self.index = index


class BadForm(WayError):
    """A thing that is no form of a round."""

    def __init__(self, thing):
        self.thing = thing


class BadHand(WayError):
    """A thing that names no hand."""

    def __init__(self, thing):
        self.thing = thing


class BadIndex(WayError):
    """A thing that is no index here."""

    def __init__(self, thing):
        self.thing = thing


class BadLines(WayError):
    """The first thing that is no line."""

    def __init__(self, index):
        self.index = index


class BadMost(WayError):
    """A thing that is no greatest number."""

    def __init__(self, thing):
        self.thing = thing


class BadMove(WayError):
    """A thing that is no move of the way."""

    def __init__(self, move):
        self.move = move


class BadMoves(WayError):
    """The first thing that is no move where it stands."""

    def __init__(self, index):
        self.index = index


class BadNumber(WayError):
    """A thing that is no number here."""

    def __init__(self, thing):
        self.thing = thing


class BadOrder(WayError):
    """A thing that is no order of the way."""

    def __init__(self, thing):
        self.thing = thing


class BadOther(WayError):
    """A thing that is no other way that goes with the first."""

    def __init__(self, thing):
        self.thing = thing


class BadPair(WayError):
    """A thing that is no idle pair of the way."""

    def __init__(self, thing):
        self.thing = thing


class BadPoint(WayError):
    """A thing that is no point of a map."""

    def __init__(self, thing):
        self.thing = thing


class BadQuestion(WayError):
    """A thing that is no question now."""

    def __init__(self, thing):
        self.thing = thing


class BadRounds(WayError):
    """The first thing that is no round with the others."""

    def __init__(self, index):
        self.index = index


class BadRules(WayError):
    """The first thing that is no rule."""

    def __init__(self, index):
        self.index = index


class BadSaying(WayError):
    """A thing that is no saying over the rounds."""

    def __init__(self, thing):
        self.thing = thing


class BadSession(WayError):
    """A thing that is no Session."""

    def __init__(self, thing):
        self.thing = thing


class BadSpelling(WayError):
    """The first thing that is no turned loop."""

    def __init__(self, index):
        self.index = index


class BadStep(WayError):
    """A thing that is no step that can be done on the word."""

    def __init__(self, step):
        self.step = step


class BadSteps(WayError):
    """The first thing that is no step that can be done there."""

    def __init__(self, index):
        self.index = index


class BadTable(WayError):
    """The first thing that is no row of a table."""

    def __init__(self, index):
        self.index = index


class BadText(WayError):
    """The first wrong sign of a text, -1 for no string."""

    def __init__(self, index):
        self.index = index


class BadThird(WayError):
    """A thing that is no third way that goes with the others."""

    def __init__(self, thing):
        self.thing = thing


class BadWay(WayError):
    """A thing that is no Way."""

    def __init__(self, thing):
        self.thing = thing


class BadWord(WayError):
    """A thing that is no word."""

    def __init__(self, thing):
        self.thing = thing


class InUse(WayError):
    """A watched question that would be none any more."""

    def __init__(self, question):
        self.question = question


class IsWatched(WayError):
    """A question that is watched, or held, already."""

    def __init__(self, question):
        self.question = question


class NoCount(WayError):
    """A thing that is no number of deeds done."""

    def __init__(self, thing):
        self.thing = thing


class NotApart(WayError):
    """Two steps that are not apart, by the index of the first."""

    def __init__(self, index):
        self.index = index


class NotNow(WayError):
    """A deed that cannot be done now."""

    def __init__(self, why):
        self.why = why


class NotRound(WayError):
    """A way that leads to another word, its end."""

    def __init__(self, end):
        self.end = end


class NotStraight(WayError):
    """A round that is not straight, by its first pair."""

    def __init__(self, pair):
        self.pair = pair


class NotWatched(WayError):
    """A question that is not watched."""

    def __init__(self, question):
        self.question = question


class TooFar(WayError):
    """A lot of more words than most."""

    def __init__(self, most):
        self.most = most


class WouldChange(WayError):
    """A held question that would be answered otherwise."""

    def __init__(self, question, why):
        self.question = question
        self.why = why
