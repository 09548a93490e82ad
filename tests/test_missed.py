"""Promises 2, 8, 9 and 16: missed keys."""

import random

from seencursors.errors import InvalidHash, Mismatch
from seencursors.missed import closed_set, concerns, is_closed, missed_run
from seencursors.roads import Road, full_road
from seencursors.rules import Rule
from seencursors.runs import is_run, is_whole, listed
from seencursors.texts import parse_rule

from helpers import LARGE, NO_INTEGERS, ODD, TWELVE, Case, places_of
from model import World, is_closed_by_words, some_calls, some_worlds

WORDS = "cursors 2\nshape 0\ncall 0.0 end\ncall end\nshape 1\ncall 0.0 next 1\ncall 0.1 end"
MOVING = "cursors 2\nshape 0>1\ncall 0.0 next 1\ncall 1.1 next 0\nshape 1\ncall 0.0 next 1\ncall 0.1 end"
FUNCTIONS = (missed_run, closed_set, concerns)


class MissedTest(Case):

    def setUp(self):
        self.rule, self.road = parse_rule(WORDS), full_road([(0,), (1,)])

    def test_examples(self):
        self.same([missed_run(self.rule, self.road, 3), missed_run(self.rule, self.road, 2)],
                  [[((1,), False), ((0,), False)], None])
        self.same([closed_set(self.rule, Road([(1,)], []), 1), concerns(self.rule, self.road, 2)],
                  [[((1,), False, 0), ((1,), False, 1)], [((0,), 0), ((1,), 0)]])

    def test_named(self):
        self.same(missed_run(code=2, road=self.road, rule=self.rule), None)
        self.same(closed_set(code=3, road=self.road, rule=self.rule), None)
        self.same(concerns(code=0, road=self.road, rule=self.rule), [((0,), 0), ((1,), 0)])
        self.same(is_closed(thing=[], code=0, road=self.road, rule=self.rule), False)

    def test_one_call_that_ends(self):
        rule = Rule(1, {(1, 2): [(((0, 1), (1, 3)), None)]})
        road = full_road([(1, 2)])
        for code in range(32):
            missed = [((1, 2), False)] if code % 2 == 0 else [((1, 2), True)] if code % 4 == 1 else None
            self.keeps(missed, missed_run, rule, road, code)
            self.keeps([((1, 2), 0)], concerns, rule, road, code)
            self.assertIs(closed_set(rule, road, code) is None, missed is not None)
        self.keeps([((1, 2), False, 0), ((1, 2), True, 0)], closed_set, rule, road, 3)

    def test_rules_that_never_end(self):
        rule = Rule(2, {(0,): [((), 1), ((), 0)], (1, 0): [((), 1), (((0, 0),), 1)]})
        road = full_road([(0,), (1, 0)])
        everything = [(shape, moved, at) for shape, moved in [((0,), False), ((1, 0), False), ((1, 0), True)]
                      for at in (0, 1)]
        for code in (0, 1, 31):
            self.keeps(None, missed_run, rule, road, code)
            self.keeps(everything, closed_set, rule, road, code)
            self.keeps([((0,), 0), ((0,), 1), ((1, 0), 0), ((1, 0), 1)], concerns, rule, road, code)
            self.assertIs(is_closed(rule, road, code, everything[::-1]), True)

    def test_the_first_of_several_shortest_runs(self):
        rule = Rule(3, {
            (0,): [((), 2), ((), None), ((), 2)], (0, 1): [((), 1), ((), None), ((), None)],
            (1,): [((), 1), ((), None), ((), 0)]})
        road = full_road([(0,), (0, 1), (1,)])
        self.keeps([((0,), False), ((0, 1), False)], missed_run, rule, road, 5)
        self.keeps([((0, 1), False), ((0,), False)], missed_run, rule, full_road([(0,), (0, 1)]).without(
            [((0,), (0, 1))]), 5)
        other = rule.with_call((0, 1), 0, (((0, 0),), 1))
        self.keeps([((0, 1), True), ((0,), False)], missed_run, other, Road([(1,), (0, 1)], [((0, 1), (0,))]), 5)
        self.keeps([((1,), False), ((0, 1), False)], missed_run, other, Road([(1,)], [((1,), (0, 1))]), 5)
        self.keeps([((1,), False), ((1,), False)], missed_run, other, Road([(1,)], [((0, 1), (1,))]), 5)
        longest = rule.with_call((0,), 2, ((), None))
        self.keeps([((0,), False), ((0,), False)], missed_run, longest, road, 5)

    def test_the_shortest_run_goes_ahead_of_a_first_one(self):
        rule = Rule(3, {(0,): [((), 1), ((), 2), ((), None)], (1,): [((), None), ((), 2), ((), None)]})
        self.keeps([((1,), False)], missed_run, rule, full_road([(0,), (1,)]), 0)
        self.keeps([((0,), False)] * 3, missed_run, rule, full_road([(0,)]), 0)

    def test_what_is_behind_a_list_or_an_end_is_not_met(self):
        rule = Rule(3, {(0,): [(((0, 0),), 1), ((), None), ((), None)], (1,): [((), None), ((), 2), ((), 2)]})
        road = Road([(0,)], [((0,), (1,))])
        self.keeps([((0,), False, 0)], closed_set, rule, road, 7)
        self.keeps([((0,), 0)], concerns, rule, road, 7)
        road = Road([(1,)], [((1,), (0,))])
        self.keeps([((1,), 0)], concerns, rule, road, 7)
        self.keeps([((1,), False)], missed_run, rule, road, 7)

    def test_against_the_words(self):
        seen = {True: 0, False: 0}
        for world in some_worlds(21, 250):
            rule, road = world.rule, world.road
            for code in (0, 1, 2, 3, 31):
                wanted = world.least_missed(code)
                self.keeps(wanted, missed_run, rule, road, code)
                found = closed_set(rule, road, code)
                seen[found is None] += 1
                self.assertIs(found is None, wanted is not None)
                if found is None:
                    self.assertIs(is_whole(rule, road, wanted), True)
                    self.assertNotIn(True, listed(rule, road, wanted, code))
                else:
                    self.same(found, sorted(found))
                    self.assertIs(is_closed_by_words(world, code, found), True)
                    self.assertIs(is_closed(rule, road, code, found), True)
        self.assertGreater(min(seen.values()), 200)

    def test_shortest_by_trying_all_runs(self):
        for world in some_worlds(22, 60, most_shapes=2, most_cursors=2):
            runs = world.runs(5)
            for code in (0, 3):
                missed = [(len(run), run) for run, parts in runs
                          if world.later(parts[-1]) is None and world.waits(code, parts)]
                found = missed_run(world.rule, world.road, code)
                if missed or found is not None and len(found) <= 5:
                    self.same(found, min(missed)[1])

    def test_concerns_against_the_words(self):
        for world in some_worlds(23, 60, most_shapes=2, most_cursors=2):
            runs = world.runs(6)
            for code in (0, 1, 2):
                wanted = {(parts[-1][0], parts[-1][2]) for _, parts in runs if world.waits(code, parts[:-1])}
                self.keeps(sorted(wanted), concerns, world.rule, world.road, code)

    def test_near_a_closed_set(self):
        wrong = 0
        for world in some_worlds(24, 60, widths=(0, 1)):
            rule, road = world.rule, world.road
            rows = closed_set(rule, road, 1)
            if rows is None:
                continue
            self.assertIs(is_closed(rule, road, 1, rows[::-1]), True)
            self.assertIs(is_closed(rule, road, 1, tuple(rows)), False)
            everything = world.situations()
            for part in rows:
                self.assertIs(is_closed(rule, road, 1, rows + [part]), False)
                rest = [other for other in rows if other != part]
                wanted = is_closed_by_words(world, 1, rest)
                self.assertIs(is_closed(rule, road, 1, rest), wanted)
                wrong += not wanted
            for part in everything:
                if part not in rows:
                    wanted = is_closed_by_words(world, 1, rows + [part])
                    self.assertIs(is_closed(rule, road, 1, [part] + rows), wanted)
                    wrong += not wanted
            self.assertIs(is_closed(rule, road, 1, everything), is_closed_by_words(world, 1, everything))
        self.assertGreater(wrong, 100)

    def test_things_that_are_no_closed_sets(self):
        rule, road = parse_rule(MOVING), Road([(0, 1)], [])
        rows = closed_set(rule, road, 3)
        self.same(rows, [((0, 1), moved, at) for moved in (False, True) for at in (0, 1)])
        wrong = ODD + [rows[:3], rows + rows[:1], tuple(rows), {row: True for row in rows}]
        for part in ODD + [
                ((0, 1), False), ((0, 1), False, 0, 0), [(0, 1), False, 0], ((0, 1), False, 2), ((0, 1), False, -1),
                ((0, 1), False, True), ((0, 1), False, False), ((0, 1), 0, 0), ((0, 1), 1, 1), ((0, 1), None, 0),
                ((0, True), False, 0), ((False, 1), False, 0), ([0, 1], False, 0), ((1,), False, 0), ((1,), True, 0),
                ((0,), False, 0), ((0, 1), False, None), ((0, 1), False, "0"), ((0, 1), [], 0), ((0, 1), False, [0])]:
            wrong.extend([rows + [part], [part] + rows, rows[1:] + [part]])
        for thing in wrong:
            self.assertIs(is_closed(rule, road, 3, thing), False, thing)
        self.assertIs(is_closed(rule, road, 3, rows), True)
        self.assertIs(is_closed(parse_rule(WORDS), self.road, 0, []), False)
        wide = Road([(0, 1)], [((1,), (0, 1))])
        # With the shape (1,) cursor 1 lists the hash, and cursor 0 goes on with cursor 1.
        for part, wanted in [((1,), False, 1), True], [((1,), True, 1), False], [((1,), False, True), False], [
                ((1,), False, 0), False]:
            self.assertIs(is_closed(rule, wide, 3, rows + [part]), wanted)
        self.assertIs(is_closed(rule, wide, 3, rows + [((1,), False, 0), ((1,), False, 1)]), True)

    def test_errors_in_their_order(self):
        rows = closed_set(self.rule, self.road, 0)
        for road in [Road([(0,), (2,)], []), Road([(0,)], [((0,), (0, 1))])]:
            for code in (0, 32, None):
                for function in FUNCTIONS:
                    self.raises(Mismatch, function, self.rule, road, code)
                self.raises(Mismatch, is_closed, self.rule, road, code, rows)
                self.raises(Mismatch, is_closed, self.rule, road, code, None)
        for code in NO_INTEGERS + LARGE + [-1, 32]:
            for function in FUNCTIONS:
                self.raises(InvalidHash, function, self.rule, self.road, code)
            self.raises(InvalidHash, is_closed, self.rule, self.road, code, rows)
            self.raises(InvalidHash, is_closed, self.rule, self.road, code, None)

    def test_each_hash(self):
        rule = Rule(1, {(5,): [(tuple((0, at) for at in range(32) if at not in (0, 17, 31)), None)]})
        for code in range(32):
            self.same(missed_run(rule, full_road([(5,)]), code), [((5,), False)] if code in (0, 17, 31) else None)

    def test_what_another_call_changes(self):
        source = random.Random(25)
        for world in some_worlds(25, 60):
            rule, road = world.rule, world.road
            for code in (0, 3):
                states = concerns(rule, road, code)
                for shape in world.calls:
                    for cursor in range(world.cursors):
                        if (shape, cursor) not in states:
                            other = rule.with_call(shape, cursor, some_calls(source, world.cursors, [shape])[shape][0])
                            self.same(missed_run(other, road, code), missed_run(rule, road, code))
                            self.same(concerns(other, road, code), states)

    def test_64_cursors_and_twelve_shapes(self):
        road = full_road(TWELVE)
        calls = {shape: [((), at + 1 if at < 63 else None) for at in range(64)] for shape in TWELVE}
        rule = Rule(64, calls)
        self.same(missed_run(rule, road, 31), [((0,), False)] * 64)
        self.same(closed_set(rule, road, 31), None)
        self.same(concerns(rule, road, 31), [(shape, at) for shape in sorted(TWELVE) for at in range(64)])
        told = {shape: row[:63] + [(tuple(places_of(shape)), None)] for shape, row in calls.items()}
        rows = closed_set(Rule(64, told), road, 31)
        self.same(rows, [(shape, moved, at) for shape in sorted(TWELVE) for moved in (False, True)
                         for at in range(64) if len(shape) == 2 or not moved])
        self.same(missed_run(Rule(64, told), road, 31), None)
        self.assertIs(is_closed(Rule(64, told), road, 31, rows), True)
        self.assertIs(is_closed(Rule(64, told), road, 31, rows[1:]), False)
        told[(5, 4)][63] = (tuple(places_of((5, 4)))[:47], None)
        self.same(missed_run(Rule(64, told), road, 31), [((0,), False)] * 63 + [((5, 4), True)])
        self.assertIs(is_run(Rule(64, told), road, missed_run(Rule(64, told), road, 31)), True)

    def test_many_cursors_at_random(self):
        source = random.Random(26)
        for ends in (0.0, 0.01, 0.05):
            world = World(64, some_calls(source, 64, TWELVE, ends, 0.6), TWELVE, full_road(TWELVE).changes)
            rule, road = world.rule, world.road
            for code in (0, 31):
                wanted = world.least_missed(code, 30)
                self.same(missed_run(rule, road, code), wanted)
                rows = closed_set(rule, road, code)
                self.assertIs(rows is None, wanted is not None)
                if rows is not None:
                    self.assertIs(is_closed(rule, road, code, rows), True)
