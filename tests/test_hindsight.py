"""Promises 2, 9 and 23: hindsight."""

import random

from seencursors.errors import InvalidNumber, InvalidTrace, Mismatch, UnknownShape
from seencursors.hindsight import barrier, hindsight, is_barrier, run_with
from seencursors.roads import Road, full_road
from seencursors.rules import Rule
from seencursors.traces import shapes_at, trace_of

from helpers import NO_NUMBERS, ODD, TWELVE, Case, bent_lists, no_lists
from model import is_barrier as is_barrier_by_words
from model import some_calls, some_worlds

A, B, AB, BA, C = (0,), (1,), (0, 1), (1, 0), (2,)
RULE = Rule(2, {A: [(((0, 0),), 1), ((), 1)], B: [(((0, 0),), 1), (((0, 1),), None)]})
ROAD = Road([A, B], [(A, B)])


class HindsightTest(Case):

    def test_examples(self):
        self.same([hindsight(RULE, ROAD, [1]), hindsight(RULE, ROAD, [1, 1]), run_with(RULE, ROAD, [1, -1], 0, A)],
                  [[[A, B]], [[A], [A]], [(A, False), (B, False)]])
        self.same([barrier(RULE, ROAD, [1, -1], 0, A), is_barrier(RULE, ROAD, [1, 1], 0, B, [[B], []])], [None, True])

    def test_named(self):
        self.same(hindsight(trace=[1], road=ROAD, rule=RULE), [[A, B]])
        self.same(run_with(shape=B, index=0, trace=[1], road=ROAD, rule=RULE), [(B, False)])
        self.same(barrier(shape=A, index=1, trace=[1, -1], road=ROAD, rule=RULE), [[A, B], []])
        self.same(is_barrier(thing=[[A, B], []], shape=A, index=1, trace=[1, -1], road=ROAD, rule=RULE), True)

    def test_the_empty_trace(self):
        self.keeps([], hindsight, RULE, ROAD, [])
        for index in (0, -1, 1, None):
            for function, rest in [(run_with, []), (barrier, []), (is_barrier, [[]])]:
                self.raises(InvalidNumber, function, RULE, ROAD, [], index, A, *rest)

    def test_against_the_words(self):
        seen = {True: 0, False: 0}
        for world in some_worlds(91, 80) + some_worlds(90, 40, most_shapes=5, most_cursors=2, ends=(0.2,)):
            for trace, rows in list(world.by_trace(4).items())[::3]:
                wanted = [sorted({run[at][0] for run, _ in rows}) for at in range(len(trace))]
                self.keeps(wanted, hindsight, world.rule, world.road, list(trace))
                for index in range(len(trace)):
                    for shape in world.shapes:
                        runs = [run for run, _ in rows if run[index][0] == shape]
                        seen[bool(runs)] += 1
                        self.check_either(world, list(trace), index, shape, min(runs) if runs else None)
        self.assertGreater(min(seen.values()), 500)

    def check_either(self, world, trace, index, shape, wanted):
        self.keeps(wanted, run_with, world.rule, world.road, trace, index, shape)
        paper = self.fresh(barrier, world.rule, world.road, trace, index, shape)
        self.assertIs(paper is None, wanted is not None)
        if paper is not None:
            self.assertIs(is_barrier_by_words(world, trace, index, shape, paper), True)
            self.assertIs(is_barrier(world.rule, world.road, trace, index, shape, paper), True)
        else:
            self.same(trace_of(world.rule, world.road, wanted), trace)
            for thing in ([[] for _ in trace], [world.shapes] * (len(trace) - 1) + [[]]):
                self.assertIs(is_barrier(world.rule, world.road, trace, index, shape, thing), False)

    def test_the_first_of_several_runs(self):
        rule = Rule(2, {shape: [((), 1), ((), 1)] for shape in (A, AB, B)})
        road = full_road([A, AB, B])
        for index, shape, run in [
                (0, B, [B, A, A]), (1, B, [A, B, A]), (2, B, [A, A, B]), (1, A, [A, A, A]), (1, AB, [A, AB, A])]:
            self.keeps([(part, False) for part in run], run_with, rule, road, [1, 1, 1], index, shape)
        road = Road([AB, B], [(AB, A), (B, AB), (A, B)])
        for index, shape, run in [
                (0, B, [B, AB, A]), (1, B, [B, B, AB]), (2, B, [AB, A, B]), (2, A, [AB, A, A]), (2, AB, [AB, AB, AB]),
                (1, AB, [AB, AB, A]), (0, AB, [AB, A, A])]:
            self.keeps([(part, False) for part in run], run_with, rule, road, [1, 1, 1], index, shape)
        # The first shape that may stand at the second call does not follow the first one of the first call.
        third = Rule(2, {A: [((), 1), ((), 0)], AB: [((), 1), ((), 1)], B: [((), 1), ((), 1)]})
        self.keeps([(A, False), (B, False), (B, False)], run_with, third, Road([A, AB], [(A, B)]), [1, 1, 1], 2, B)
        self.keeps([(A, False), (B, False), (B, False)], run_with, third, Road([A, AB], [(A, B)]), [1, 1, 1], 0, A)

    def test_shapes_that_only_the_rule_has(self):
        rule = Rule(1, {A: [((), 0)], B: [((), 0)], C: [((), 0)]})
        road = Road([A], [(A, C)])
        self.keeps([[A], [A, C]], hindsight, rule, road, [0, 0])
        for function, rest in [(run_with, []), (barrier, []), (is_barrier, [[[], []]])]:
            self.raises(UnknownShape, function, rule, road, [0, 0], 0, B, *rest)
        self.keeps([(A, False), (C, False)], run_with, rule, road, [0, 0], 1, C)
        self.keeps(None, run_with, rule, road, [0, 0], 0, C)
        self.keeps([[], []], barrier, rule, road, [0, 0], 0, C)

    def test_near_a_barrier(self):
        seen = {True: 0, False: 0}
        for world in some_worlds(92, 50):
            for trace in list(world.by_trace(4))[:20:2]:
                for index in range(len(trace)):
                    for shape in world.shapes:
                        paper = barrier(world.rule, world.road, list(trace), index, shape)
                        if paper is not None:
                            wide = [world.shapes for _ in trace[1:]] + [[]]
                            things = [paper, wide, *bent_lists(paper, world.shapes), *bent_lists(wide, world.shapes)]
                            for thing in things:
                                wanted = is_barrier_by_words(world, trace, index, shape, thing)
                                seen[wanted] += 1
                                got = is_barrier(world.rule, world.road, list(trace), index, shape, thing)
                                self.assertIs(got, wanted, thing)
        self.assertGreater(min(seen.values()), 500)

    def test_what_the_list_with_the_index_may_leave_out(self):
        road = Road([A, B, C], [(A, B), (B, C)])
        rule = Rule(2, {A: [((), 1), ((), 1)], B: [((), 1), ((), None)], C: [((), 1), ((), 0)]})
        # Behind cursor 1 only A goes on with 1, so A is the shape of all calls of the trace 1, 1.
        self.keeps([[A], [A]], hindsight, rule, road, [1, 1])
        self.keeps([[B], []], barrier, rule, road, [1, 1], 0, B)
        for thing, wanted in [
                ([[B], []], True), ([[B, C], []], True), ([[A, B], []], False), ([[], []], False), ([[C], []], False),
                ([[B], [A]], False), ([[B, B], []], False), ([[C, B], []], False)]:
            self.assertIs(is_barrier(rule, road, [1, 1], 0, B, thing), wanted, thing)
        self.keeps([[A, B, C], []], barrier, rule, road, [1, 1], 1, B)
        for thing, wanted in [
                ([[A, B, C], []], True), ([[A, B], []], False), ([[A, C], []], False), ([[B, C], []], False),
                ([[], []], False)]:
            self.assertIs(is_barrier(rule, road, [1, 1], 1, B, thing), wanted, thing)
        # The shape itself need not stand there if no run comes to it.
        self.keeps([[], []], barrier, rule, Road([A, B], [(B, C)]), [1, 1], 0, C)

    def test_things_that_are_no_barriers(self):
        paper = [[B], []]
        self.keeps(paper, barrier, RULE, ROAD, [1, 1], 0, B)
        for thing in ODD + list(no_lists(paper)):
            self.assertIs(is_barrier(RULE, ROAD, [1, 1], 0, B, thing), False, thing)
        self.assertIs(is_barrier(RULE, ROAD, [1, 1], 0, B, paper), True)

    def test_errors_in_their_order(self):
        numbers = [2, 3, 10 ** 39, *NO_NUMBERS]
        shapes = [thing for thing in ODD if thing != A] + [
            C, AB, (True,), (False,), [0], (0, 0), ((0,),), (0, 1, 2), (6,), "0"]
        traces = [thing for thing in ODD if thing != []] + [[0], [True], [-1, 1], (1,), [1, -1, -1], [2], [1, 0]]
        functions = [(hindsight, []), (run_with, [0, A]), (barrier, [0, A]), (is_barrier, [0, A, [[]]]),
                     (is_barrier, [0, A, None])]
        for function, rest in functions:
            for road in (Road([A, C], []), Road([A], [(A, C)]), full_road([AB])):
                self.raises(Mismatch, function, RULE, road, [1, -1], *rest)
                self.raises(Mismatch, function, RULE, road, None, *[None for _ in rest])
            for trace in traces:
                self.raises(InvalidTrace, function, RULE, ROAD, trace, *rest)
                self.raises(InvalidTrace, function, RULE, ROAD, trace, *[None for _ in rest])
            for index in numbers if rest else []:
                self.raises(InvalidNumber, function, RULE, ROAD, [1, -1], index, *rest[1:])
                self.raises(InvalidNumber, function, RULE, ROAD, [1, -1], index, None, *rest[2:])
            for shape in shapes if rest else []:
                for index in (0, 1):
                    self.raises(UnknownShape, function, RULE, ROAD, [1, -1], index, shape, *rest[2:])
        self.raises(InvalidNumber, run_with, RULE, ROAD, [1, -1], True, A)
        self.raises(InvalidNumber, run_with, RULE, ROAD, [1], 1, A)
        self.same(run_with(RULE, ROAD, [1, -1], 1, B), [(A, False), (B, False)])

    def test_long_traces_and_twelve_shapes(self):
        source, road = random.Random(93), full_road(TWELVE)
        for ends, steps in [(0.0, 1), (0.0, 2), (0.0, 64)]:
            calls = some_calls(source, 64, TWELVE, ends, 0.3)
            calls = {shape: [(listing, (at + source.randint(1, steps)) % 64) for at, (listing, _) in enumerate(row)]
                     for shape, row in calls.items()}
            rule, trace = Rule(64, calls), []
            while len(trace) < 200:
                trace.append(calls[source.choice(TWELVE)][trace[-1] if trace else 0][1])
            lists = self.fresh(hindsight, rule, road, trace)
            self.same([len(lists), lists[-1]], [200, shapes_at(rule, road, trace)])
            for index in (0, 1, 99, 198, 199):
                for shape in TWELVE:
                    run = run_with(rule, road, trace, index, shape)
                    paper = barrier(rule, road, trace, index, shape)
                    self.same([run is not None, paper is None], [shape in lists[index]] * 2)
                    if run:
                        self.same([trace_of(rule, road, run), run[index][0]], [trace, shape])
                    else:
                        self.assertIs(is_barrier(rule, road, trace, index, shape, paper), True)
