"""Promises 2, 9 and 31: watches."""

import random

from seencursors.doubts import in_doubt
from seencursors.errors import InvalidHash, Mismatch, NothingToUndo, Over, UnknownCursor
from seencursors.roads import Road, full_road
from seencursors.rules import Rule
from seencursors.traces import nexts, shapes_at
from seencursors.watches import Watch

from helpers import LARGE, NO_HASHES, NO_INTEGERS, TWELVE, Case, places_of
from model import long_worlds, some_calls, some_worlds

A, B, AB, C = (0,), (1,), (0, 1), (2,)
RULE = Rule(2, {A: [(((0, 0),), None), ((), None)], B: [(((0, 0),), 1), (((0, 1),), None)]})
ROAD = full_road([A, B])
ALL = list(range(32))


class WatchesTest(Case):

    def beside(self, watch, trace):
        """All that a watch tells, beside the functions that are asked about the whole trace."""
        asked = (watch.rule, watch.road, trace)
        doubts = in_doubt(*asked)
        self.same([watch.trace, watch.shapes, watch.nexts, watch.doubts], [trace, shapes_at(*asked), nexts(*asked), doubts])
        self.same([watch.has_ended, watch.is_clear, len(watch)], [trace[-1:] == [-1], not doubts, len(trace)])
        for code in (0, 1, 2, 7, 30, 31):
            self.same(watch.is_sure(code), code not in doubts)

    def refuses(self, watch):
        """Over or UnknownCursor for all numbers that cannot come, with nothing changed."""
        trace, error = watch.trace, Over if watch.has_ended else UnknownCursor
        for number in NO_INTEGERS + LARGE + [number for number in range(-3, watch.rule.cursors + 2)
                                             if number not in watch.nexts]:
            self.raises(error, watch.see, number)
        if watch.has_ended:
            self.raises(Over, watch.see, trace[0])
        self.beside(watch, trace)

    def test_examples(self):
        watch = Watch(RULE, ROAD)
        self.same([watch.nexts, len(watch.doubts), watch.see(1), watch.shapes, watch.doubts[:2], watch.is_sure(2),
                   watch.see(-1), watch.has_ended, watch.is_clear, len(watch)],
                  [[-1, 1], 32, None, [(1,)], [1, 3], True, None, True, False, 2])
        self.raises(Over, watch.see, 1)

    def test_named(self):
        watch = Watch(road=ROAD, rule=RULE)
        self.same([watch.see(number=1), watch.is_sure(code=2), watch.is_sure(code=3)], [None, True, False])
        self.assertEqual(watch.rule, RULE)
        self.assertEqual(watch.road, ROAD)

    def test_against_the_functions(self):
        ends = 0
        for world in some_worlds(401, 80, tells=(0.3, 0.6, 0.9)) + long_worlds(402, 20):
            source = random.Random(403)
            for _ in range(3):
                watch, trace = Watch(world.rule, world.road), []
                self.beside(watch, trace)
                for _ in range(12):
                    if watch.nexts:
                        trace.append(source.choice(watch.nexts))
                        self.same(watch.see(trace[-1]), None)
                        self.beside(watch, trace)
                    elif trace[-1] == -1:
                        ends += 1
                        self.raises(Over, watch.see, source.choice([-1, 0, 1, None]))
                    if trace and source.random() < 0.3:
                        trace.pop()
                        self.same(watch.undo(), None)
                        self.beside(watch, trace)
                while trace:
                    trace.pop()
                    watch.undo()
                    self.beside(watch, trace)
                self.raises(NothingToUndo, watch.undo)
        self.assertGreater(ends, 100)

    def test_numbers_that_cannot_come(self):
        for world in some_worlds(404, 25) + long_worlds(405, 5, cursors=12):
            watch = Watch(world.rule, world.road)
            for _ in range(4):
                self.refuses(watch)
                if watch.nexts:
                    watch.see(watch.nexts[-1])
        ring = Watch(Rule(3, {A: [((), 1), ((), 2), ((), 0)]}), Road([A], []))
        for number in (-1, 0, 2, 3, -2, True, False, 64, None, "1", (1,), [1]):
            self.raises(UnknownCursor, ring.see, number)
        ring.see(1)
        for number in (-1, 0, 1, True):
            self.raises(UnknownCursor, ring.see, number)
        both = Watch(Rule(2, {A: [((), 0), ((), 1)], B: [((), 1), ((), None)]}), full_road([A, B]))
        self.same(both.nexts, [0, 1])
        for number in (True, False, -1, 2):
            self.raises(UnknownCursor, both.see, number)

    def test_a_listing_that_has_ended(self):
        watch = Watch(RULE, ROAD)
        watch.see(-1)
        self.same([watch.nexts, watch.has_ended, watch.is_clear, watch.shapes, watch.doubts], [[], True, True, [A], []])
        for number in NO_INTEGERS + LARGE + [-1, 0, 1, 2, 64]:
            self.raises(Over, watch.see, number)
        self.same([watch.undo(), watch.has_ended, watch.nexts, watch.see(1)], [None, False, [-1, 1], None])

    def test_undo_at_the_beginning(self):
        watch = Watch(RULE, ROAD)
        self.raises(NothingToUndo, watch.undo)
        self.beside(watch, [])
        watch.see(1)
        watch.undo()
        self.raises(NothingToUndo, watch.undo)
        self.raises(UnknownCursor, watch.see, 0)
        self.raises(NothingToUndo, watch.undo)

    def test_is_sure(self):
        watch = Watch(RULE, ROAD)
        for _ in range(2):
            for code in NO_HASHES:
                self.raises(InvalidHash, watch.is_sure, code)
            for code in ALL:
                self.same(watch.is_sure(code), code not in watch.doubts)
            watch.see(watch.nexts[-1])

    def test_copies_and_copies_of_copies(self):
        for world in some_worlds(406, 20, ends=(0.0, 0.2)):
            source = random.Random(407)
            rows = [(Watch(world.rule, world.road), [])]
            for _ in range(40):
                watch, trace = source.choice(rows)
                if trace and source.random() < 0.3:
                    watch.undo()
                    trace.pop()
                elif watch.nexts:
                    trace.append(source.choice(watch.nexts))
                    watch.see(trace[-1])
                if source.random() < 0.15:
                    rows.append((watch.copy(), list(trace)))
                    self.assertIsInstance(rows[-1][0], Watch)
            for watch, trace in rows:
                self.beside(watch, trace)
            for watch, trace in rows[::2]:
                while trace:
                    watch.undo()
                    trace.pop()
                self.raises(NothingToUndo, watch.undo)
            for watch, trace in rows:
                self.beside(watch, trace)

    def test_lists_are_new(self):
        watch = Watch(RULE, ROAD)
        for _ in range(2):
            for ask in (lambda: watch.trace, lambda: watch.shapes, lambda: watch.nexts, lambda: watch.doubts):
                wanted = list(ask())
                ask().clear()
                got = ask()
                got.append(99)
                self.same(ask(), wanted)
            watch.see(watch.nexts[-1])
        other = watch.copy()
        other.trace.clear()
        other.undo()
        self.beside(watch, [1, -1])
        self.beside(other, [1])

    def test_mismatch(self):
        for road in (Road([A, C], []), Road([A], [(A, C)]), full_road([AB])):
            self.raises(Mismatch, Watch, RULE, road)

    def test_seventy_numbers_and_more(self):
        source = random.Random(408)
        for shapes, steps in [(TWELVE, (1, 1, 2)), ([(5,), (5, 4), (4, 5), (4,)], (1, -1, 1, -1)), ([C], (1,))]:
            calls = some_calls(source, 64, shapes, 0.0, 0.05)
            calls = {shape: [(listing, (at + steps[index % len(steps)]) % 64) for at, (listing, _) in enumerate(row)]
                     for index, (shape, row) in enumerate(calls.items())}
            watch, trace = Watch(Rule(64, calls), full_road(shapes)), []
            for many in range(150):
                trace.append(source.choice(watch.nexts))
                watch.see(trace[-1])
                if many in (0, 1, 69, 70, 149):
                    self.beside(watch, trace)
            other = watch.copy()
            for many in range(150):
                trace.pop()
                watch.undo()
                if many in (0, 80, 149):
                    self.beside(watch, trace)
            self.same([len(other), len(watch)], [150, 0])

    def test_a_row_of_64_cursors(self):
        """Each call lists one place, and behind the last one nothing is in doubt."""
        rule = Rule(64, {(5,): [(((0, at // 2),), at + 1 if at < 63 else None) for at in range(64)]})
        watch = Watch(rule, Road([(5,)], []))
        for at in range(64):
            self.same([watch.doubts, watch.nexts], [list(range((at + 1) // 2, 32)), [at + 1 if at < 63 else -1]])
            watch.see(watch.nexts[0])
        self.same([watch.doubts, watch.is_clear, watch.has_ended, len(watch)], [[], True, True, 64])

    def test_what_is_passed_stays(self):
        rule = Rule(2, {B: [(tuple(places_of(B)), 1), ((), 0)]})
        road = Road([B], [])
        watch = Watch(rule, road)
        for _ in range(5):
            watch.see(watch.nexts[0])
        self.assertEqual(watch.rule, Rule(2, {B: [(tuple(places_of(B)), 1), ((), 0)]}))
        self.assertEqual(watch.road, Road([B], []))
        watch.rule.calls.clear()
        watch.road.begin.clear()
        self.beside(watch, [1, 0, 1, 0, 1])
