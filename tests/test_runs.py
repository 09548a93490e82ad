"""Promises 2, 7, 8 and 15: runs."""

import itertools
import sys

from seencursors.errors import InvalidHash, InvalidRun, Mismatch
from seencursors.roads import Road, full_road
from seencursors.rules import Rule
from seencursors.runs import cursors_of, is_run, is_whole, listed, lists_of
from seencursors.texts import parse_rule

from helpers import LARGE, NO_INTEGERS, ODD, SHAPES, TWELVE, Case, moved_with, places_of
from model import some_worlds

WORDS = "cursors 2\nshape 0\ncall 0.0 end\ncall end\nshape 1\ncall 0.0 next 1\ncall 0.1 end"
MOVING = "cursors 2\nshape 0>1\ncall 0.0 next 1\ncall 1.1 next 0\nshape 1\ncall 0.0 next 1\ncall 0.1 end"
BIG = Rule(64, {
    shape: [(tuple(places_of(shape)[:at % 5]), at + 1 if at < 63 else None) for at in range(64)] for shape in TWELVE})


class RunsTest(Case):

    def setUp(self):
        self.rule, self.road = parse_rule(WORDS), full_road([(0,), (1,)])
        self.moving = parse_rule(MOVING)
        self.way = Road([(1,), (0, 1)], [((0, 1), (1,))])

    def test_examples(self):
        run = [((1,), False), ((0,), False)]
        self.same(
            [cursors_of(self.rule, self.road, run), lists_of(self.rule, self.road, run),
             is_whole(self.rule, self.road, run), listed(self.rule, self.road, run, 3)],
            [[0, 1], [((0, 0),), ()], True, [False, False]])
        self.assertIs(is_run(self.rule, self.road, [((0,), False), ((0,), False)]), False)

    def test_named(self):
        run = [((1,), False)]
        self.assertIs(is_run(thing=run, road=self.road, rule=self.rule), True)
        self.same(cursors_of(run=run, road=self.road, rule=self.rule), [0])
        self.same(lists_of(run=run, road=self.road, rule=self.rule), [((0, 0),)])
        self.same(is_whole(run=run, road=self.road, rule=self.rule), False)
        self.same(listed(code=2, run=run, road=self.road, rule=self.rule), [True])

    def test_a_run_with_two_tables(self):
        run = [((0, 1), True), ((0, 1), False), ((0, 1), True), ((1,), False)]
        self.assertIs(is_run(self.moving, self.way, run), True)
        self.keeps([0, 1, 0, 1], cursors_of, self.moving, self.way, run)
        self.keeps([((0, 0),), ((1, 1),), ((0, 0),), ((0, 1),)], lists_of, self.moving, self.way, run)
        self.assertIs(is_whole(self.moving, self.way, run), True)
        self.assertIs(is_whole(self.moving, self.way, run[:3]), False)
        self.keeps([False, False, False, True], listed, self.moving, self.way, run, 3)
        self.keeps([False, False, False, False], listed, self.moving, self.way, run, 2)
        other = [((0, 1), False), ((0, 1), True)]
        self.keeps([True, True], listed, self.moving, self.way, other, 31)
        self.keeps([True, False], listed, self.moving, self.way, other, 0)

    def test_near_a_run(self):
        run = [((0, 1), True), ((0, 1), False), ((0, 1), True), ((1,), False)]
        wrong = [
            [], tuple(run), run + [((1,), False)], run[:1] + run[3:] + [((1,), False)], run[::-1],
            [((1,), False), ((0, 1), True)], [((1,), True)], [((0,), False)], [((1, 0), False)], [((0, 1), 1)],
            [((0, 1), 0)], [((1,), 0)], [((0, 1), None)], [((0, 1),)], [((0, 1), True, 0)], [[(0, 1), True]],
            [([0, 1], True)], [(0, 1, True)], [((0, True), True)], [((False, 1), True)], [((True,), False)],
            [((0, 1), True), None], [((0, 1), True), ()], [((0, 1), True), []], [None], [()], [((), False)],
            {((0, 1), True): 0}, "run", run[:3] + [[(1,), False]], run[:3] + [((1,), 0)], run[:3] + [((1,), True)],
            [((0, 1), False), ((0,), False)], [((0, 1), [])], [([], False)], [(None, False)], [((1,), False)] * 3]
        for thing in wrong + ODD:
            self.assertIs(is_run(self.moving, self.way, thing), False, thing)
            for function in (cursors_of, lists_of, is_whole):
                self.raises(InvalidRun, function, self.moving, self.way, thing)
            self.raises(InvalidRun, listed, self.moving, self.way, thing, 0)
            self.raises(InvalidRun, listed, self.moving, self.way, thing, None)
        for thing in [run[:1], run[:2], run[:3], run[1:] + [((1,), False)], [((1,), False)], [((1,), False)] * 2]:
            self.assertIs(is_run(self.moving, self.way, thing), True, thing)

    def test_begin_and_changes_of_the_road(self):
        road = Road([(1,)], [((1,), (0, 1))])
        self.assertIs(is_run(self.moving, road, [((1,), False), ((0, 1), True)]), True)
        self.assertIs(is_run(self.moving, road, [((0, 1), True)]), False)
        self.assertIs(is_run(self.moving, road, [((1,), False), ((0, 1), True), ((1,), False)]), False)
        self.assertIs(is_run(self.moving, Road([(1,)], []), [((1,), False), ((0, 1), True)]), False)

    def test_exactly_the_runs(self):
        steps = [(shape, moved) for shape in [(0,), (1,), (0, 1), (1, 0)] for moved in (False, True)]
        for world in some_worlds(11, 25, widths=(0, 1), most_shapes=2):
            wanted = [run for run, _ in world.runs(3)]
            for length in (1, 2, 3):
                for run in itertools.product(steps, repeat=length):
                    self.assertIs(is_run(world.rule, world.road, list(run)), list(run) in wanted)

    def test_what_is_said_of_runs(self):
        for world in some_worlds(12, 40):
            rule, road, runs = world.rule, world.road, world.runs(4)
            for run, parts in runs[:20] + runs[20::max(1, len(runs) // 50)]:
                self.keeps([cursor for _, _, cursor in parts], cursors_of, rule, road, run)
                self.same(is_whole(rule, road, run), world.later(parts[-1]) is None)
                self.keeps([world.calls[shape][cursor][0] for shape, _, cursor in parts], lists_of, rule, road, run)
                for code in (0, 1, 2, 3, 30, 31):
                    self.keeps([world.tells(code, part) for part in parts], listed, rule, road, run, code)

    def test_each_hash(self):
        rule = Rule(1, {(3, 5): [(((0, 2), (0, 7), (1, 0), (1, 31)), 0)], (5,): [(((0, 0), (0, 30)), 0)]})
        road = full_road([(3, 5), (5,)])
        for code in range(32):
            run = [((3, 5), False), ((3, 5), True), ((5,), False)]
            self.same(listed(rule, road, run, code), [code % 8 in (2, 7), code in (0, 31), code in (0, 30)])

    def test_each_place(self):
        for shape in SHAPES:
            for place in places_of(shape):
                rule, road = Rule(1, {shape: [((place,), 0)]}), full_road([shape])
                for moved in moved_with(shape):
                    told = [listed(rule, road, [(shape, moved)], code)[0] for code in range(32)]
                    wanted = [place == (int(moved), code % 2 ** shape[moved]) for code in range(32)]
                    self.same(told, wanted)

    def test_mismatch_comes_first(self):
        for road in [Road([(0,), (2,)], []), Road([(0,)], [((0,), (0, 1))]), full_road([(3,)])]:
            for run in [[((0,), False)], [], None]:
                for function in (is_run, cursors_of, lists_of, is_whole):
                    self.raises(Mismatch, function, self.rule, road, run)
                self.raises(Mismatch, listed, self.rule, road, run, 0)
                self.raises(Mismatch, listed, self.rule, road, run, -1)
        self.assertIs(is_run(self.rule, Road([(0,)], []), [((0,), False)]), True)

    def test_wrong_hashes(self):
        for thing in NO_INTEGERS + LARGE + [-1, 32]:
            self.raises(InvalidHash, listed, self.rule, self.road, [((1,), False)], thing)

    def test_64_cursors_and_twelve_shapes(self):
        road = full_road(TWELVE)
        run = [(TWELVE[at % 12], at % 2 == 1 and len(TWELVE[at % 12]) == 2) for at in range(64)]
        self.assertIs(is_run(BIG, road, run), True)
        self.assertIs(is_run(BIG, road, run + run[:1]), False)
        self.assertIs(is_run(BIG, road.without([(run[31][0], run[32][0])]), run), False)
        self.same(cursors_of(BIG, road, run), list(range(64)))
        self.same([is_whole(BIG, road, run), is_whole(BIG, road, run[:63])], [True, False])
        self.same(lists_of(BIG, road, run), [tuple(places_of(shape)[:at % 5]) for at, (shape, _) in enumerate(run)])
        for code in (0, 1, 31):
            self.same(listed(BIG, road, run, code), [
                (int(moved), code % 2 ** shape[moved]) in places_of(shape)[:at % 5]
                for at, (shape, moved) in enumerate(run)])

    def test_a_long_run(self):
        rule = Rule(1, {(0,): [((), 0)]})
        run = [((0,), False)] * 4000
        self.same([is_run(rule, Road([(0,)], []), run), is_whole(rule, Road([(0,)], []), run)], [True, False])
        self.same(cursors_of(rule, Road([(0,)], []), run), [0] * 4000)

    def test_long_runs_are_gone_through_once(self):
        rule, road = Rule(2, {(0,): [(((0, 0),), 1), ((), 0)]}), Road([(0,)], [])
        run = [((0,), False)] * 1000
        self.keeps([True, False] * 500, listed, rule, road, run, 5)
        for function, rest in [(is_run, []), (cursors_of, []), (lists_of, []), (is_whole, []), (listed, [5])]:
            calls = []
            sys.setprofile(lambda frame, event, thing: calls.append(event) if event == "call" else None)
            try:
                function(rule, road, run, *rest)
            finally:
                sys.setprofile(None)
            # So many functions are called for each call of the run; a second way through it would take as many again.
            self.assertLess(len(calls), 10 * len(run), function)

    def test_moved_of_each_shape(self):
        for shape in TWELVE:
            rule = Rule(1, {shape: [((), None)]})
            for moved in (False, True):
                self.assertIs(is_run(rule, full_road([shape]), [(shape, moved)]), moved in moved_with(shape))
