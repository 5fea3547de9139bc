"""[39]: the least on which two bare pictures both go on."""

import random
import unittest

from tests.helpers import HALVES, TWINS, anything, drawn_ways, raised
from tests.oracles import bare_told, event_keys, events_told, key
from tests.test_beginnings import PLACES
from tests.test_events import FORK, P, Q
from tests.test_idles import idle_ways
from waysback.beginnings import is_beginning
from waysback.errors import BadOther, BadWay
from waysback.events import at_odds, way_of_events
from waysback.goings import put_behind
from waysback.idles import bare
from waysback.joins import joined
from waysback.ways import Way


class JoinedTest(unittest.TestCase):
    def test_the_example(self):
        self.assertEqual(joined(way=P, other=Q), ("odds", 0, 0))
        right = Way(FORK, "aa", [(1, 0, "on")])
        self.assertEqual(joined(P, right), ("way", Way(FORK, "aa", [(0, 0, "on"), (1, 0, "on")])))

    def test_with_and_without_events_in_common(self):
        rng = random.Random(110)
        shared, apart, odd = 0, 0, 0
        for book, word in PLACES:
            ways = drawn_ways(rng, book, word, 16, 6)
            for way in ways:
                for other in ways:
                    told = joined(way, other)
                    pairs = at_odds(way, other)
                    if pairs:
                        self.assertEqual(told, ("odds",) + pairs[0])
                        odd += 1
                        continue
                    self.assertEqual(told[0], "way")
                    self.assertEqual(told[1], bare(told[1]))
                    self.assertEqual(event_keys(told[1]), event_keys(way) | event_keys(other))
                    self.assertTrue(is_beginning(way, told[1]) and is_beginning(other, told[1]))
                    self.assertEqual(joined(other, way), told)
                    both = event_keys(way) & event_keys(other)
                    shared += bool(both) and event_keys(told[1]) not in (event_keys(way), event_keys(other))
                    apart += not both and bool(event_keys(way)) and bool(event_keys(other))
        self.assertTrue(shared > 5 and apart > 5 and odd > 5, (shared, apart, odd))

    def test_a_beginning_of_each_common_going_on(self):
        rng = random.Random(111)
        for book, word in PLACES:
            for whole in drawn_ways(rng, book, word, 8, 8):
                events = events_told(bare(whole))
                lots = []
                for _ in range(2):
                    given = [event for event in events if rng.random() < 0.4]
                    keys = {name for event in given for name in event_keys(event)}
                    lots.append(way_of_events(book, word, [event for event in events if key(event) in keys])[1])
                told = joined(lots[0], lots[1])
                self.assertEqual(told[0], "way")
                self.assertTrue(is_beginning(told[1], whole))

    def test_with_a_beginning_of_itself(self):
        for way in idle_ways(112):
            told = bare_told(way)
            for cut in range(len(told.steps()) + 1):
                begun = Way(way.book(), way.word(), told.steps()[:cut])
                self.assertEqual(joined(begun, way), ("way", told))
                self.assertEqual(joined(way, begun), ("way", told))

    def test_two_have_a_common_going_on_just_if_nothing_is_at_odds(self):
        rng = random.Random(113)
        for book, word in PLACES:
            ways = drawn_ways(rng, book, word, 6, 3)
            for way in ways:
                for other in ways:
                    if joined(way, other)[0] == "odds":
                        # Whatever further steps are done behind way, other is no beginning of it.
                        for further in drawn_ways(rng, book, bare(way).end(), 5, 4):
                            further = put_behind(bare(way), further)
                            self.assertFalse(is_beginning(way, further) and is_beginning(other, further))

    def test_bad_way_then_bad_other(self):
        for thing in anything() + [Way(FORK, "a", []), Way(HALVES, "aa", []), Way(TWINS, "aa", [])]:
            if not isinstance(thing, Way):
                error = raised(joined, thing, None)
                self.assertIs(type(error), BadWay)
                self.assertIs(error.thing, thing)
            error = raised(joined, P, thing)
            self.assertIs(type(error), BadOther)
            self.assertIs(error.thing, thing)


if __name__ == "__main__":
    unittest.main()
