"""[43]: walls, which are events."""

import random
import unittest

from tests.helpers import HALVES, RING, anything, drawn_ways, lists_within, raised, random_way
from tests.oracles import bare_told, behind_told, event_keys, events_told, key
from tests.test_beginnings import PLACES
from tests.test_events import FORK, P, Q
from waysback.errors import BadOther, BadWay
from waysback.events import events
from waysback.goings import put_behind
from waysback.idles import bare
from waysback.joins import joined
from waysback.likeness import distance
from waysback.walls import has_wall, wall_from, walls_between
from waysback.ways import Way


def drawn_events(rng, ways):
    """Some events of ways, some of them with steps that are idle."""
    lot = [event for way in ways for event in events(way)]
    told = rng.sample(lot, min(8, len(lot)))
    for at, event in enumerate(told[:3]):
        aside = random_way(rng, event.book(), event.end(), 1, 12)
        told[at] = put_behind(event, behind_told(Way(event.book(), event.end(), []), aside))
        told[at] = put_behind(told[at], behind_told(aside, Way(event.book(), aside.word(), [])))
    return told


class WallsTest(unittest.TestCase):
    def test_the_example(self):
        right = joined(P, Way(FORK, "aa", [(1, 0, "on")]))[1]
        told = wall_from(way=P, other=right)
        self.assertEqual((told.word(), told.steps()), ("bb", [(0, 0, "back")]))

    def test_has_wall(self):
        rng = random.Random(140)
        for book, word in PLACES:
            ways = drawn_ways(rng, book, word, 12, 6)
            for event in drawn_events(rng, ways):
                for way in ways:
                    expected = key(bare_told(event)) in event_keys(way)
                    self.assertIs(has_wall(way=event, other=way), expected)

    def test_walls_between(self):
        rng = random.Random(141)
        for book, word in PLACES:
            ways = drawn_ways(rng, book, word, 12, 6)
            for way in ways:
                for other in ways:
                    told = walls_between(way=way, other=other)
                    mine, theirs = event_keys(way), event_keys(other)
                    first = [event for event in events_told(bare_told(way)) if key(event) not in theirs]
                    second = [event for event in events_told(bare_told(other)) if key(event) not in mine]
                    self.assertEqual(told, (first, second))
                    self.assertEqual(len(told[0]) + len(told[1]), distance(way, other))

    def test_the_wall_from_elsewhere_parts_the_same_ways(self):
        rng = random.Random(142)
        for book, word in PLACES:
            ways = drawn_ways(rng, book, word, 10, 5)
            for event in drawn_events(rng, ways):
                for other in ways:
                    told = wall_from(event, other)
                    self.assertEqual((told.book(), told.word()), (book, other.end()))
                    self.assertEqual(told, bare(told))
                    for way in ways:
                        parted = has_wall(event, way) != has_wall(event, other)
                        self.assertIs(has_wall(told, behind_told(other, way)), parted)

    def test_from_the_word_itself_and_there_and_back(self):
        rng = random.Random(143)
        for book, word in PLACES:
            ways = drawn_ways(rng, book, word, 8, 5)
            for event in drawn_events(rng, ways):
                self.assertEqual(wall_from(event, Way(book, word, [])), bare_told(event))
                for other in ways:
                    there = wall_from(event, other)
                    self.assertEqual(wall_from(there, behind_told(other, Way(book, word, []))), bare_told(event))

    def test_just_one_event_there_has_this_wall(self):
        rng = random.Random(144)
        for book, word in PLACES:
            ways = drawn_ways(rng, book, word, 10, 4)
            for event in drawn_events(rng, ways)[:4]:
                other = rng.choice(ways)
                told = wall_from(event, other)
                from_there = [behind_told(other, way) for way in ways]
                for one in from_there:
                    for same in events(one):
                        parts = [has_wall(same, way) for way in from_there] == [has_wall(told, way) for way in from_there]
                        sides = {key(bare(put_behind(other, side))) for side in (same, Way(book, same.word(), same.steps()[:-1]))}
                        over = [side for side in sides if key(bare_told(event)) in event_keys(Way(book, word, list(side)))]
                        self.assertIs(len(over) == 1, same == told)
                        self.assertTrue(parts or same != told)


class ErrorsTest(unittest.TestCase):
    def test_bad_way_also_for_what_is_no_event(self):
        no_events = [
            Way(FORK, "aa", []), Way(FORK, "aa", [(0, 0, "on"), (0, 0, "back")]), Q,
            Way(RING, "a", [(0, 0, "on"), (0, 1, "on"), (0, 1, "back"), (0, 0, "back")]),
        ]
        for thing in [thing for thing in anything() if not isinstance(thing, Way)] + no_events:
            for call in (has_wall, wall_from):
                error = raised(call, thing, None)
                self.assertIs(type(error), BadWay)
                self.assertIs(error.thing, thing)
        for thing in anything():
            if not isinstance(thing, Way):
                error = raised(walls_between, thing, None)
                self.assertIs(type(error), BadWay)
                self.assertIs(error.thing, thing)

    def test_bad_other(self):
        for thing in anything() + [Way(FORK, "a", []), Way(HALVES, "aa", []), Way(FORK, "bb", [])]:
            for call in (has_wall, walls_between, wall_from):
                error = raised(call, P, thing)
                self.assertIs(type(error), BadOther)
                self.assertIs(error.thing, thing)

    def test_any_way_may_be_between(self):
        self.assertEqual(walls_between(Q, Way(FORK, "aa", [])), (events(Q), []))
        told = walls_between(P, Q)
        self.assertEqual(told, ([P], events(Q)))
        found = lists_within(told)
        self.assertEqual(len({id(thing) for thing in found}), 2)


if __name__ == "__main__":
    unittest.main()
