"""Promises 2, 9 and 22: doubts."""

import random

from seencursors.doubts import chain, doubt_run, in_doubt, is_chain
from seencursors.errors import InvalidHash, InvalidTrace, Mismatch
from seencursors.roads import Road, full_road
from seencursors.rules import Rule
from seencursors.traces import trace_of

from helpers import NO_HASHES, ODD, TWELVE, Case, bent_lists, no_lists, places_of
from model import is_chain as is_chain_by_words
from model import some_calls, some_worlds

A, B, AB, BA, C = (0,), (1,), (0, 1), (1, 0), (2,)
RULE = Rule(2, {A: [(((0, 0),), None), ((), None)], B: [(((0, 0),), 1), (((0, 1),), None)]})
ROAD = full_road([A, B])
ALL = list(range(32))
CODES = (0, 1, 2, 3, 31)


class DoubtsTest(Case):

    def test_examples(self):
        self.same([in_doubt(RULE, ROAD, [1])[:3], len(in_doubt(RULE, ROAD, [])), in_doubt(RULE, ROAD, [-1])],
                  [[1, 3, 5], 32, []])
        self.same([doubt_run(RULE, ROAD, [1, -1], 3), doubt_run(RULE, ROAD, [1, -1], 2), chain(RULE, ROAD, [1, -1], 3),
                   is_chain(RULE, ROAD, [1, -1], 2, [[], []])], [[(B, False), (A, False)], None, None, True])

    def test_named(self):
        self.same(in_doubt(trace=[-1], road=ROAD, rule=RULE), [])
        self.same(doubt_run(code=3, trace=[1], road=ROAD, rule=RULE), [(B, False)])
        self.same(chain(code=2, trace=[1], road=ROAD, rule=RULE), [[]])
        self.same(is_chain(thing=[[]], code=2, trace=[1], road=ROAD, rule=RULE), True)

    def test_the_empty_trace(self):
        rule = Rule(1, {B: [(((0, 0), (0, 1)), 0)]})
        self.keeps(ALL, in_doubt, rule, full_road([B]), [])
        for code in (0, 1, 31):
            self.keeps([], doubt_run, rule, full_road([B]), [], code)
            self.keeps(None, chain, rule, full_road([B]), [], code)
            for thing in ([], [[]], [[], []], None, ()):
                self.assertIs(is_chain(rule, full_road([B]), [], code, thing), False)

    def test_against_the_words(self):
        seen = {True: 0, False: 0}
        for world in some_worlds(81, 90) + some_worlds(80, 50, most_shapes=5, most_cursors=2, ends=(0.2,)):
            for trace, rows in list(world.by_trace(3).items())[:12]:
                doubts = []
                for code in range(32):
                    runs = [run for run, parts in rows if world.waits(code, parts)]
                    doubts.extend([code] if runs else [])
                    if code in CODES:
                        seen[bool(runs)] += 1
                        self.check_either(world, list(trace), code, min(runs) if runs else None)
                self.keeps(doubts, in_doubt, world.rule, world.road, list(trace))
        self.assertGreater(min(seen.values()), 500)

    def check_either(self, world, trace, code, wanted):
        self.keeps(wanted, doubt_run, world.rule, world.road, trace, code)
        paper = self.fresh(chain, world.rule, world.road, trace, code)
        self.assertIs(paper is None, wanted is not None)
        if paper is not None:
            self.assertIs(is_chain_by_words(world, trace, code, paper), True)
            self.assertIs(is_chain(world.rule, world.road, trace, code, paper), True)
        else:
            self.same(trace_of(world.rule, world.road, wanted), trace)
            wide = [world.shapes] * (len(trace) - 1)
            for thing in ([[] for _ in trace], wide + [world.shapes], wide + [[]]):
                self.assertIs(is_chain(world.rule, world.road, trace, code, thing), False)

    def test_longer_traces(self):
        for world in some_worlds(82, 60, most_shapes=2, tells=(0.3, 0.5)):
            for trace, rows in list(world.by_trace(6).items())[-8:]:
                for code in (0, 3):
                    runs = [run for run, parts in rows if world.waits(code, parts)]
                    self.check_either(world, list(trace), code, min(runs) if runs else None)

    def test_the_first_of_several_runs(self):
        rule = Rule(2, {A: [((), 1), ((), 1)], AB: [(((0, 0),), 1), (((1, 0), (1, 1)), 1)], B: [((), 1), ((), 1)]})
        for road, run in [
                (full_road([A, AB, B]), [(A, False), (A, False)]), (full_road([AB, B]), [(AB, True), (AB, False)]),
                (Road([AB, B], [(AB, B)]), [(AB, True), (AB, False)]),
                (Road([AB], [(AB, B)]), [(AB, True), (AB, False)]),
                (Road([B], [(B, AB), (B, A)]), [(B, False), (A, False)]),
                (Road([B], [(B, AB)]), [(B, False), (AB, False)]), (Road([B], [(A, AB)]), [(B, False), (B, False)])]:
            self.keeps(run, doubt_run, rule, road, [1, 1], 6)
        # The first way through the first lists alone does not lead on.
        other = Rule(3, {A: [((), 1), ((), None), ((), 0)], B: [((), 1), ((), 2), ((), 0)]})
        road = Road([A, B], [(B, A)])
        self.keeps([(B, False), (B, False), (A, False)], doubt_run, other, road, [1, 2, 0], 9)
        self.keeps([(A, False), (A, False)], doubt_run, other, road, [1, -1], 9)
        # The first shape that may stand at the second call does not follow the first one of the first call.
        third = Rule(2, {A: [((), 1), ((), 0)], B: [((), 1), ((), 1)], C: [((), 1), ((), 1)]})
        self.keeps([(A, False), (C, False)], doubt_run, third, Road([A, B], [(A, C)]), [1, 1], 9)

    def test_what_a_call_with_two_tables_can_leave_out(self):
        for listing, doubts in [
                ((), ALL), (((0, 0),), ALL), (((1, 0),), ALL),
                (((0, 0), (1, 0)), [code for code in ALL if code % 4 or code % 2]),
                (((0, 1), (1, 1)), [code for code in ALL if code % 2 != 1 or code % 4 != 1]),
                (((0, 0), (0, 1)), ALL), (((1, 0), (1, 1), (1, 2), (1, 3)), ALL), (tuple(places_of((1, 2))), []),
                (((0, 1),) + tuple(places_of((1, 2))[2:]), [code for code in ALL if code % 2 == 0])]:
            rule = Rule(1, {(1, 2): [(listing, None)]})
            road = full_road([(1, 2)])
            self.keeps(doubts, in_doubt, rule, road, [-1])
            for code in ALL:
                moved = [move for move, width in ((False, 1), (True, 2))
                         if (int(move), code % 2 ** width) not in listing]
                self.keeps([((1, 2), moved[0])] if moved else None, doubt_run, rule, road, [-1], code)
                self.assertIs(is_chain(rule, road, [-1], code, [[]]), not moved)
                self.keeps(None if moved else [[]], chain, rule, road, [-1], code)

    def test_near_a_chain(self):
        seen = {True: 0, False: 0}
        for world in some_worlds(83, 70, tells=(0.6, 0.9)):
            for trace in list(world.by_trace(4))[:15]:
                for code in (1, 3):
                    paper = chain(world.rule, world.road, list(trace), code)
                    if paper is not None:
                        wide = [world.shapes for _ in trace[1:]] + [[]]
                        for thing in [paper, wide, *bent_lists(paper, world.shapes), *bent_lists(wide, world.shapes)]:
                            wanted = is_chain_by_words(world, trace, code, thing)
                            seen[wanted] += 1
                            got = is_chain(world.rule, world.road, list(trace), code, thing)
                            self.assertIs(got, wanted, thing)
        self.assertGreater(min(seen.values()), 500)

    def test_chains_with_further_shapes(self):
        rule = Rule(2, {A: [(((0, 0),), 1), (((0, 0),), 1)], B: [((), 0), ((), 1)], C: [((), 1), ((), 0)]})
        road = Road([A], [(A, B), (B, C)])
        self.keeps([[], []], chain, rule, road, [1, 1], 4)
        for thing, wanted in [
                ([[A], []], False), ([[C], []], True), ([[B], []], False), ([[B, C], []], False), ([[], [B]], False),
                ([[], []], True), ([[A, A], []], False), ([[C, C], []], False), ([[C, A], []], False),
                ([[(3,)], []], False), ([[C], [], []], False), ([[]], False), ([[C], [C]], False), ([[AB], []], False)]:
            self.assertIs(is_chain(rule, road, [1, 1], 4, thing), wanted, thing)
        self.keeps([(A, False), (B, False)], doubt_run, rule.with_call(A, 0, ((), 1)), road, [1, 1], 4)

    def test_things_that_are_no_chains(self):
        paper = [[B], []]
        rule = Rule(2, {A: [((), 1), ((), 0)], B: [((), 1), (((0, 0), (0, 1)), None)]})
        road = Road([B], [(B, A)])
        self.keeps(paper, chain, rule, road, [1, -1], 3)
        for thing in ODD + list(no_lists(paper)):
            self.assertIs(is_chain(rule, road, [1, -1], 3, thing), False, thing)
        self.assertIs(is_chain(rule, road, [1, -1], 3, paper), True)
        self.assertIs(is_chain(rule, road, [1, -1], 3, [[A, B], []]), True)
        self.assertIs(is_chain(rule, road, [1, -1], 3, [[B, A], []]), False)

    def test_errors_in_their_order(self):
        traces = [thing for thing in ODD if thing != []] + [[0], [True], [1, 1], [-1, 1], (1,), [1, -1, -1], [2], [-2]]
        for function, rest in [
                (in_doubt, []), (doubt_run, [3]), (chain, [3]), (is_chain, [3, [[]]]), (is_chain, [3, 0])]:
            for road in (Road([A, C], []), Road([A], [(A, C)]), full_road([AB])):
                self.raises(Mismatch, function, RULE, road, [1], *rest)
                self.raises(Mismatch, function, RULE, road, None, *[None for _ in rest])
            for trace in traces:
                self.raises(InvalidTrace, function, RULE, ROAD, trace, *rest)
                self.raises(InvalidTrace, function, RULE, ROAD, trace, *[None for _ in rest])
            for code in NO_HASHES if rest else []:
                for trace in ([], [1], [1, -1]):
                    self.raises(InvalidHash, function, RULE, ROAD, trace, code, *rest[1:])

    def test_each_hash(self):
        rule = Rule(1, {(5,): [(tuple((0, at) for at in range(32) if at not in (0, 9, 31)), 0)]})
        self.keeps([0, 9, 31], in_doubt, rule, full_road([(5,)]), [0, 0])
        for code in ALL:
            wanted = [((5,), False)] * 2 if code in (0, 9, 31) else None
            self.keeps(wanted, doubt_run, rule, full_road([(5,)]), [0, 0], code)

    def test_long_traces_many_cursors_and_twelve_shapes(self):
        source, road = random.Random(84), full_road(TWELVE)
        for tells, steps in [(0.02, 1), (0.4, 1), (0.1, 3)]:
            calls = some_calls(source, 64, TWELVE, 0.0, tells)
            calls = {shape: [(listing, (at + source.randint(1, steps)) % 64) for at, (listing, _) in enumerate(row)]
                     for shape, row in calls.items()}
            rule, trace = Rule(64, calls), []
            while len(trace) < 200:
                trace.append(calls[source.choice(TWELVE)][trace[-1] if trace else 0][1])
            last = ALL
            for most in (1, 2, 10, 50, 100, 200):
                doubts = in_doubt(rule, road, trace[:most])
                self.assertLessEqual(set(doubts), set(last))
                last = doubts
                for code in (0, 13, 31):
                    run, paper = [function(rule, road, trace[:most], code) for function in (doubt_run, chain)]
                    self.same([run is None, paper is None], [code not in doubts, code in doubts])
                    if run:
                        self.same(trace_of(rule, road, run), trace[:most])
                    else:
                        self.assertIs(is_chain(rule, road, trace[:most], code, paper), True)

    def test_in_turns(self):
        worlds = some_worlds(85, 3, most_cursors=2)
        asked = [(world, list(trace), code)
                 for world in worlds for trace in list(world.by_trace(3))[:8] for code in (0, 3)]
        fresh = {}
        for at, (world, trace, code) in enumerate(asked):
            rule, road = Rule(world.cursors, world.calls), Road(world.begin, world.changes)
            fresh[at] = [
                in_doubt(rule, road, trace), doubt_run(rule, road, trace, code), chain(rule, road, trace, code)]
        order = list(range(len(asked))) * 3
        random.Random(86).shuffle(order)
        for at in order:
            world, trace, code = asked[at]
            got = [in_doubt(world.rule, world.road, trace), doubt_run(world.rule, world.road, trace, code),
                   chain(world.rule, world.road, trace, code)]
            self.same(got, fresh[at])
