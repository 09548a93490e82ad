"""Promises 2, 7, 9 and 21: traces."""

import itertools
import random

from seencursors.errors import InvalidRun, InvalidTrace, Mismatch
from seencursors.roads import Road, full_road
from seencursors.rules import Rule
from seencursors.runs import cursors_of
from seencursors.traces import is_trace, nexts, shapes_at, trace_of

from helpers import LARGE, NO_INTEGERS, ODD, TWELVE, Case, places_of
from model import World, some_calls, some_worlds

A, B, AB, C = (0,), (1,), (0, 1), (2,)
RULE = Rule(2, {A: [(((0, 0),), None), ((), None)], B: [(((0, 0),), 1), (((0, 1),), None)]})
ROAD = full_road([A, B])
# Things put into the place of a number of a trace.
NO_MEMBERS = NO_INTEGERS + LARGE + [-2, 64]


def last_ones(rows):
    return sorted({parts[-1][0] for _, parts in rows})


class TracesTest(Case):

    def test_examples(self):
        self.same([trace_of(RULE, ROAD, [(B, False), (A, False)]), is_trace(RULE, ROAD, [1, 0]),
                   shapes_at(RULE, ROAD, [1]), shapes_at(RULE, ROAD, [1, -1])], [[1, -1], False, [B], [A, B]])
        self.same([nexts(RULE, ROAD, []), nexts(RULE, ROAD, [1]), nexts(RULE, ROAD, [1, -1])], [[-1, 1], [-1], []])

    def test_named(self):
        self.same(trace_of(run=[(B, False)], road=ROAD, rule=RULE), [1])
        self.same(is_trace(thing=[1], road=ROAD, rule=RULE), True)
        self.same(shapes_at(trace=[1], road=ROAD, rule=RULE), [B])
        self.same(nexts(trace=[1], road=ROAD, rule=RULE), [-1])

    def test_the_empty_trace(self):
        for world in some_worlds(71, 60):
            self.assertIs(is_trace(world.rule, world.road, []), True)
            self.keeps(sorted(world.begin), shapes_at, world.rule, world.road, [])
            first = sorted({-1 if world.calls[shape][0][1] is None else world.calls[shape][0][1]
                            for shape in world.begin})
            self.keeps(first, nexts, world.rule, world.road, [])

    def test_traces_of_runs(self):
        for world in some_worlds(72, 80):
            rows = world.runs(4)
            for run, parts in rows[:20] + rows[20::max(1, len(rows) // 30)]:
                trace = world.trace(parts)
                self.keeps(trace, trace_of, world.rule, world.road, run)
                # A trace is one behind the cursors.
                self.same(([0] + trace)[:-1], cursors_of(world.rule, world.road, run))
                for most in range(len(trace) + 1):
                    self.assertIs(is_trace(world.rule, world.road, trace[:most]), True)

    def test_exactly_the_traces(self):
        for world in some_worlds(73, 50, most_shapes=2):
            found = world.by_trace(3)
            for length in (1, 2, 3):
                for trace in itertools.product(range(-2, world.cursors + 2), repeat=length):
                    self.assertIs(is_trace(world.rule, world.road, list(trace)), trace in found, trace)

    def test_shapes_and_nexts_against_the_words(self):
        many = 0
        for world in some_worlds(74, 100, most_cursors=4):
            found = world.by_trace(4)
            for trace, rows in found.items():
                self.keeps(last_ones(rows), shapes_at, world.rule, world.road, list(trace))
                if len(trace) < 4:
                    wanted = [number for number in range(-1, world.cursors) if trace + (number,) in found]
                    self.keeps(wanted, nexts, world.rule, world.road, list(trace))
                    many += len(wanted) > 1
                    for number in range(-1, world.cursors):
                        self.assertIs(is_trace(world.rule, world.road, [*trace, number]), number in wanted)
        self.assertGreater(many, 50)

    def test_near_a_trace(self):
        calls = {A: [((), 2), ((), 0), ((), 1)], AB: [((), 2), ((), None), ((), 2)], B: [((), 0), ((), 1), ((), None)]}
        world = World(3, calls, [A, AB], [(A, AB), (AB, A)])
        found = world.by_trace(6)
        trace = [2, 1, -1]
        self.assertIn(tuple(trace), found)
        for at in range(len(trace) + 1):
            for number in range(-3, 5):
                for thing in (trace[:at] + [number] + trace[at:], trace[:at] + [number] + trace[at + 1:]):
                    self.assertIs(is_trace(world.rule, world.road, thing), tuple(thing) in found, thing)
            self.assertIs(is_trace(world.rule, world.road, trace[:at] + trace[at + 1:]),
                          tuple(trace[:at] + trace[at + 1:]) in found)
        for thing in ([-1], [2, -1], [-1, 2], [2, -1, 1], [2, 1, -1, -1], [2, 1, -1, 2], [1, 2], [2, 1, 0, 2, 2],
                      [2, 1, 0, 2, 0]):
            self.assertIs(is_trace(world.rule, world.road, thing), tuple(thing) in found, thing)

    def test_an_end_amid(self):
        # The call with the last cursor, which an index of -1 would find, goes on.
        rule = Rule(2, {A: [((), None), ((), 1)]})
        self.assertIs(is_trace(rule, full_road([A]), [-1]), True)
        self.assertIs(is_trace(rule, full_road([A]), [-1, 1]), False)
        self.assertIs(is_trace(rule, full_road([A]), [-1, -1]), False)
        self.keeps([], nexts, rule, full_road([A]), [-1])
        self.keeps([A], shapes_at, rule, full_road([A]), [-1])

    def test_things_that_are_no_traces(self):
        rule, road = Rule(2, {A: [((), 1), ((), 0)], B: [((), 0), ((), None)]}), full_road([A, B])
        wrong = [thing for thing in ODD if thing not in ([], [0], [0] * 4999)] + [
            (1,), (1, 0), [True], [False], [1, False], [1, True], ["1"], [[1]], [(1,)], {1: 0}, [1, None],
            [1, 0, "x"], [None, 1], [[], 1], [-1], [1, -2], [2], [10 ** 39], [0] * 199 + [True]]
        for number in NO_MEMBERS:
            wrong.extend([[number], [1, number], [number, 1], [1, number, 1]])
        for thing in wrong:
            self.assertIs(is_trace(rule, road, thing), False, repr(thing)[:99])
            self.raises(InvalidTrace, shapes_at, rule, road, thing)
            self.raises(InvalidTrace, nexts, rule, road, thing)
        self.assertIs(is_trace(rule, road, [0]), True)
        self.assertIs(is_trace(rule, road, [1, 0, 1, -1]), True)
        self.assertIs(is_trace(rule, road, [1, 0, 1, -1, 0]), False)

    def test_things_that_are_no_runs(self):
        wrong = ODD + [[(A, False), (A, False)], [(B, True)], [(B, 0)], ((B, False),), [(C, False)], [((True,), False)],
                       [[B, False]], [(B, False), None], [(B, False)] * 3]
        for thing in wrong:
            self.raises(InvalidRun, trace_of, RULE, ROAD, thing)
        for run, trace in [([(B, False)] * 2, [1, -1]), ([(A, False)], [-1]), ([(B, False)], [1])]:
            self.keeps(trace, trace_of, RULE, ROAD, run)

    def test_mismatch_comes_first(self):
        for road in (Road([A, C], []), Road([A], [(A, C)]), full_road([AB])):
            for function, thing in itertools.product((trace_of, is_trace, shapes_at, nexts), ([], [1], None, [True])):
                self.raises(Mismatch, function, RULE, road, thing)

    def test_begin_and_changes_of_the_road(self):
        road = Road([B], [(A, B)])
        self.same([nexts(RULE, road, []), nexts(RULE, road, [1]), shapes_at(RULE, road, [1, -1])], [[1], [-1], [B]])
        self.assertIs(is_trace(RULE, road, [-1]), False)
        self.raises(InvalidTrace, nexts, RULE, road, [-1])
        self.same(shapes_at(RULE, Road([B], [(B, A)]), [1, -1]), [A, B])
        self.same(nexts(RULE, Road([A], [(A, B)]), []), [-1])

    def test_long_traces(self):
        source, road = random.Random(75), full_road(TWELVE)
        rule = Rule(64, some_calls(source, 64, TWELVE, 0.0, 0.5))
        run, cursor, trace = [], 0, []
        while len(trace) < 200:
            shape = source.choice(TWELVE)
            cursor = rule.call(shape, cursor)[1]
            run.append((shape, len(shape) == 2 and len(run) % 2 == 0))
            trace.append(cursor)
        self.keeps(trace, trace_of, rule, road, run)
        for most in (0, 1, 2, 63, 199, 200):
            self.assertIs(is_trace(rule, road, trace[:most]), True)
        self.assertIn(run[-1][0], shapes_at(rule, road, trace))
        self.same(nexts(rule, road, trace), sorted({rule.call(shape, cursor)[1] for shape in TWELVE}))
        other = min(set(range(64)) - set(nexts(rule, road, trace[:100])))
        self.assertIs(is_trace(rule, road, trace[:100] + [other] + trace[101:]), False)
        same = Rule(64, {shape: [(tuple(places_of(shape)), (at + 1) % 64) for at in range(64)] for shape in TWELVE})
        trace = [(at + 1) % 64 for at in range(200)]
        self.same([is_trace(same, road, trace), shapes_at(same, road, trace), nexts(same, road, trace)],
                  [True, sorted(TWELVE), [(200 + 1) % 64]])
