"""Sessions: the work of several hands on one word."""

from waysback.books import need_book
from waysback.deeds import answers_changed, deed_told, desk_behind, is_deed, why_changed
from waysback.desks import Desk
from waysback.errors import BadDeed, BadHand, BadQuestion, NoCount, WouldChange
from waysback.questions import answer_to, can_be_asked
from waysback.ways import Way
from waysback.words import is_number, need_word


class Session:
    """A line of all, hands with lines of their own, questions that are watched, and what was done."""

    def __init__(self, book, word):
        need_book(book)
        need_word(word)
        self._start = Desk(Way(book, word, []), {}, {})
        # Pairs (deed, desk behind it). These lists are never changed, but told anew.
        self._done = []
        self._taken_back = []

    def __eq__(self, other):
        return isinstance(other, Session) and self._now() == other._now()

    def _now(self):
        """The desk as it is now."""
        if len(self._done) == 0:
            return self._start
        return self._done[-1][1]

    def book(self):
        """The Book of the session."""
        return self._now().line_of("all").book()

    def word(self):
        """The word of the session."""
        return self._now().line_of("all").word()

    def hands(self):
        """The list of the hands' names, in the order in which they came."""
        return self._now().names()

    def line(self, who):
        """The way of the line of a hand, or of "all"."""
        if not self._now().is_who(who):
            raise BadHand(who)
        return self._now().line_of(who)

    def base(self, hand):
        """The way of the base of a hand."""
        if not self._now().is_hand(hand):
            raise BadHand(hand)
        return self._now().base_of(hand)

    def watched(self):
        """The list of the triples (question, answer, held) of all questions that are watched."""
        desk = self._now()
        return [(question, answer_to(desk, question), desk.is_held(question)) for question in desk.questions()]

    def is_question(self, thing):
        """Whether any object is a question now."""
        return can_be_asked(self._now(), thing)

    def answer(self, question):
        """The answer to a question."""
        if not can_be_asked(self._now(), question):
            raise BadQuestion(question)
        return answer_to(self._now(), question)

    def do(self, deed):
        """Does a deed; the list of the triples (question, ahead, behind) of what is answered otherwise."""
        behind = self._desk_behind(deed)
        changes = answers_changed(self._now(), behind)
        for change in changes:
            if behind.is_held(change[0]):
                raise WouldChange(change[0], why_changed(behind, change))
        self._done = self._done + [(deed_told(deed), behind)]
        self._taken_back = []
        return changes

    def would(self, deed):
        """What do would tell if nothing were held; changes nothing."""
        return answers_changed(self._now(), self._desk_behind(deed))

    def _desk_behind(self, deed):
        """The desk behind a deed."""
        if not is_deed(deed):
            raise BadDeed(deed)
        return desk_behind(self._now(), deed)

    def count(self):
        """How many deeds are done and not taken back."""
        return len(self._done)

    def deeds(self):
        """The list of the deeds that are done and not taken back."""
        return [deed for deed, _ in self._done]

    def undo(self):
        """Takes the last deed back and tells it, None if there is none."""
        if len(self._done) == 0:
            return None
        last = self._done[-1]
        self._done = self._done[:-1]
        self._taken_back = self._taken_back + [last]
        return last[0]

    def again(self):
        """Does the next deed that was taken back again and tells it, None if there is none."""
        if len(self._taken_back) == 0:
            return None
        last = self._taken_back[-1]
        self._taken_back = self._taken_back[:-1]
        self._done = self._done + [last]
        return last[0]

    def _like(self, done, undone):
        """A new session with the same start, and these deeds."""
        told = started(self._start)
        told._done = done
        told._taken_back = undone
        return told

    def at(self, number):
        """A new session as this one was behind so many deeds."""
        if not is_number(number) or number > len(self._done):
            raise NoCount(number)
        return self._like(self._done[:number], [])

    def copy(self):
        """A new session like this one."""
        return self._like(self._done, self._taken_back)

    def trial(self, work):
        """What work tells of this session, with which it may do what it likes: all is put back then."""
        done = self._done
        undone = self._taken_back
        try:
            return work(self)
        finally:
            self._done = done
            self._taken_back = undone


def started(desk):
    """A session that begins with this desk, no deed done."""
    line = desk.line_of("all")
    told = Session(line.book(), line.word())
    told._start = desk
    return told
