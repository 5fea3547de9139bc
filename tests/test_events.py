"""[37], [38]: events, which are at odds, and which lots of them are those of a way."""

import random
import unittest

from tests.helpers import DOUBLES, HALVES, OTHER_KINDS, RING, anything, drawn_ways, lists_within, raised, sample_ways
from tests.oracles import bare_told, boxes_by_step, event_keys, events_told, key
from tests.test_beginnings import PLACES
from tests.test_idles import idle_ways
from waysback.beginnings import is_beginning
from waysback.books import Book
from waysback.errors import BadBook, BadEvents, BadOther, BadWay, BadWord
from waysback.events import at_odds, events, way_of_events
from waysback.hangings import hangs
from waysback.idles import bare
from waysback.pictures import boxes_of
from waysback.ways import Way

FORK = Book([("a", "b"), ("a", "c")])
P = Way(FORK, "aa", [(0, 0, "on")])
Q = Way(FORK, "aa", [(0, 1, "on"), (1, 0, "on")])


def last_taken(event):
    """The last box of an event, and what it takes, named by rules and wires all the way down."""
    names = [(place,) for place in range(len(event.word()))]
    told = None
    row = list(names)
    for (place, rule, turn), (_, _, taken, given) in zip(event.steps(), boxes_by_step(event)):
        wires = tuple(row[place:place + len(taken)])
        told = (rule, turn, wires)
        row[place:place + len(taken)] = [(told, at) for at in range(len(given))]
    return told


def odds_told(way, other):
    """The pairs at odds of two lists of events, by the names of what their last boxes take."""
    first, second = [last_taken(event) for event in way], [last_taken(event) for event in other]
    return [
        (i, j) for i, one in enumerate(first) for j, two in enumerate(second)
        if one != two and set(one[2]) & set(two[2])
    ]


class EventsTest(unittest.TestCase):
    def test_of_each_box_in_their_order(self):
        self.assertEqual(events(way=Q), [Way(FORK, "aa", [(0, 1, "on")]), Way(FORK, "aa", [(1, 0, "on")])])
        for way in sample_ways(100, 14, 9) + idle_ways(100):
            told = events(way)
            self.assertEqual(told, events_told(bare_told(way)))
            self.assertEqual(len({key(event) for event in told}), len(told))
            self.assertEqual([event.steps()[-1][1:] for event in told], [box[:2] for box in boxes_of(bare(way))])
            for event in told:
                self.assertEqual(hangs(event)[-1], list(range(len(event.steps()) - 1)))
                self.assertEqual((event, is_beginning(event, way)), (bare(event), True))

    def test_none_of_no_steps(self):
        self.assertEqual(events(Way(DOUBLES, "x", [])), [])
        self.assertEqual(events(Way(DOUBLES, "x", [(0, 0, "on"), (0, 0, "back")])), [])


class AtOddsTest(unittest.TestCase):
    def test_the_example(self):
        self.assertEqual(at_odds(way=P, other=Q), [(0, 0)])
        self.assertEqual(at_odds(P, P), [])

    def test_pairs_of_many(self):
        rng = random.Random(101)
        found = 0
        for book, word in PLACES:
            ways = drawn_ways(rng, book, word, 14, 7)
            for way in ways:
                for other in ways:
                    told = at_odds(way, other)
                    self.assertEqual(told, odds_told(events(way), events(other)))
                    self.assertEqual(sorted((j, i) for i, j in at_odds(other, way)), told)
                    found = max(found, len(told))
        self.assertGreater(found, 2)

    def test_one_common_wire_of_several(self):
        first = Way(HALVES, "xxx", [(0, 0, "on")])
        second = Way(HALVES, "xxx", [(2, 0, "back"), (1, 0, "on")])
        self.assertEqual(at_odds(first, second), [(0, 1)])
        self.assertEqual(at_odds(second, first), [(1, 0)])


class WayOfEventsTest(unittest.TestCase):
    def test_all_events_in_other_orders_and_some_twice(self):
        rng = random.Random(102)
        for way in sample_ways(103, 12, 8) + idle_ways(103):
            given = events(way)
            for _ in range(3):
                rng.shuffle(given)
                mixed = given + given[:2]
                told = way_of_events(book=Book(way.book().rules()), word=way.word(), given=mixed)
                self.assertEqual(told, ("way", bare_told(way)))
            self.assertEqual(way_of_events(way.book(), way.word(), tuple(given)), ("way", bare_told(way)))

    def test_of_none_the_way_of_no_steps(self):
        for word in ("", "aa"):
            self.assertEqual(way_of_events(FORK, word, []), ("way", Way(FORK, word, [])))

    def test_events_that_are_not_bare_stand_for_those_that_are(self):
        idle = Way(FORK, "aa", [(1, 1, "on"), (0, 0, "on"), (1, 1, "back")])
        self.assertEqual(way_of_events(FORK, "aa", [idle, P]), ("way", P))

    def test_lacking_and_at_odds_of_many(self):
        rng = random.Random(104)
        kinds = set()
        for book, word in PLACES:
            ways = drawn_ways(rng, book, word, 10, 6)
            lot = [event for way in ways for event in events(way)]
            for number in range(60):
                if number % 2:
                    given = rng.sample(lot, min(len(lot), rng.randrange(1, 7)))
                else:
                    # All that hang together with one another, and perhaps one left out, one doubled.
                    given = [event for way in rng.sample(ways, 2) for event in events(way)]
                    rng.shuffle(given)
                    given = given[number % 3 - 1:] if number % 3 else given
                told = way_of_events(book, word, given)
                self.assertEqual(told, self.told_again(book, word, given))
                kinds.add(told[0])
        self.assertEqual(kinds, {"way", "lacks", "odds"})

    def told_again(self, book, word, given):
        """What way_of_events has to tell, by the keys of events."""
        keys = [key(bare_told(event)) for event in given]
        for index, event in enumerate(given):
            for number, part in enumerate(events_told(bare_told(event))):
                if key(part) not in keys:
                    return ("lacks", index, number)
        odds = odds_told([bare_told(event) for event in given], [bare_told(event) for event in given])
        odds = [pair for pair in odds if pair[0] < pair[1]]
        if odds:
            return ("odds",) + odds[0]
        told = way_of_events(book, word, given)[1]
        self.assertEqual(told, bare(told))
        self.assertEqual(event_keys(told), set(keys))
        return ("way", told)

    def test_the_least_of_each(self):
        chain = events(Way(RING, "aa", [(0, 0, "on"), (0, 1, "on"), (0, 2, "on"), (1, 0, "on")]))
        first, second, third, other = chain
        self.assertEqual(way_of_events(RING, "aa", [other, third]), ("lacks", 1, 0))
        self.assertEqual(way_of_events(RING, "aa", [first, third, other, third]), ("lacks", 1, 1))
        self.assertEqual(way_of_events(RING, "aa", [third, second]), ("lacks", 0, 0))
        self.assertEqual(way_of_events(RING, "aa", [third, second, first]), ("way", Way(RING, "aa", third.steps())))
        against = Way(RING, "aa", [(0, 2, "back")])
        self.assertEqual(way_of_events(RING, "aa", [second, other, against, first]), ("odds", 2, 3))
        self.assertEqual(way_of_events(RING, "aa", [against, against, first, first]), ("odds", 0, 2))
        # What is lacking goes ahead of what is at odds.
        self.assertEqual(way_of_events(RING, "aa", [against, first, third]), ("lacks", 2, 1))

    def test_bad_events_at_the_first_thing_that_is_none(self):
        right = Way(FORK, "aa", [(0, 0, "on")])
        two = Way(FORK, "aa", [(0, 0, "on"), (1, 0, "on")])
        wrong = anything() + [
            Way(FORK, "aa", []), two, Way(FORK, "a", [(0, 0, "on")]), Way(RING, "aa", [(0, 0, "on")]),
            Way(FORK, "aa", [(0, 0, "on"), (0, 0, "back")]), Way(FORK, "aa", two.steps() + [(0, 0, "back"), (0, 1, "on")]),
        ]
        for thing in wrong:
            for index in range(3):
                error = raised(way_of_events, FORK, "aa", [right] * index + [thing, None])
                self.assertIs(type(error), BadEvents, repr(thing))
                self.assertEqual(error.index, index)
        for thing in OTHER_KINDS + ["", "ab", right, FORK]:
            error = raised(way_of_events, FORK, "aa", thing)
            self.assertIs(type(error), BadEvents)
            self.assertEqual(error.index, 0)

    def test_bad_book_then_bad_word(self):
        for thing in anything():
            if not isinstance(thing, Book):
                error = raised(way_of_events, thing, None, None)
                self.assertIs(type(error), BadBook)
                self.assertIs(error.thing, thing)
            if thing not in ("", "ab"):
                error = raised(way_of_events, FORK, thing, None)
                self.assertIs(type(error), BadWord)
                self.assertIs(error.thing, thing)


class ErrorsTest(unittest.TestCase):
    def test_bad_way_then_bad_other(self):
        for thing in anything() + [Way(FORK, "a", []), Way(RING, "aa", [])]:
            if not isinstance(thing, Way):
                for call, more in ((events, ()), (at_odds, (None,))):
                    error = raised(call, thing, *more)
                    self.assertIs(type(error), BadWay)
                    self.assertIs(error.thing, thing)
            error = raised(at_odds, P, thing)
            self.assertIs(type(error), BadOther)
            self.assertIs(error.thing, thing)

    def test_told_lists_are_new(self):
        for call in (lambda: events(Q), lambda: at_odds(P, Q)):
            lists_within(call())[0].clear()
            self.assertNotEqual(call(), [])


if __name__ == "__main__":
    unittest.main()
