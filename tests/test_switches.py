"""Promises 2, 7, 8, 9 and 19: switches."""

import random

from seencursors.errors import InvalidNumber, Mismatch
from seencursors.roads import Road, full_road
from seencursors.rules import Rule
from seencursors.runs import is_run, is_whole, listed
from seencursors.switches import fewest_switches, is_switch_levels, switch_levels, weakest

from helpers import NO_NUMBERS, ODD, TWELVE, Case, bent, no_papers, places_of
from model import are_levels, long_worlds, some_calls, some_worlds

A, B, AB, C = (0,), (1,), (0, 1), (2,)
RULE = Rule(2, {A: [(((0, 0),), None), ((), None)], B: [(((0, 0),), 1), (((0, 1),), None)]})
ROAD = full_road([A, B])
CODES = (0, 1, 2, 3, 31)


class SwitchesTest(Case):

    def test_examples(self):
        self.same([fewest_switches(RULE, ROAD, 1), fewest_switches(RULE, ROAD, 0), weakest(RULE, ROAD)],
                  [(1, [(B, False), (A, False)]), None, (1, 1)])
        self.same([switch_levels(RULE, ROAD, 1, 2), is_switch_levels(
            RULE, ROAD, 1, 1, {(B, False, 0): 0, (A, False, 1): 1})], [None, True])

    def test_named(self):
        self.same(fewest_switches(code=1, road=ROAD, rule=RULE), (1, [(B, False), (A, False)]))
        self.same(switch_levels(number=1, code=1, road=ROAD, rule=RULE), {(A, False, 1): 1, (B, False, 0): 0})
        self.same(is_switch_levels(thing={}, number=9, code=0, road=ROAD, rule=RULE), True)
        self.same(weakest(road=ROAD, rule=RULE), (1, 1))

    def test_no_switch_one_and_many(self):
        for many in range(6):
            # Each cursor leaves out everything with one shape alone, another one each time.
            shapes = [(at,) for at in range(many + 1)]
            calls = {shape: [((), None if at == many else at + 1) if at == index else
                             (tuple(places_of(shape)), None) for at in range(many + 1)]
                     for index, shape in enumerate(shapes)}
            rule, road = Rule(many + 1, calls), full_road(shapes)
            for code in (0, 31):
                self.keeps((many, [(shape, False) for shape in shapes]), fewest_switches, rule, road, code)
            self.keeps((many, 0), weakest, rule, road)
            if many:
                less = road.without([(shapes[0], shapes[1])])
                self.keeps(None, fewest_switches, rule, less, 0)
                self.keeps(None, weakest, rule, less)

    def test_moved_alone_is_no_switch(self):
        rule = Rule(3, {AB: [(((0, 0),), 1), (((1, 0), (1, 1)), 2), (((0, 0),), None)]})
        self.keeps((0, [(AB, True), (AB, False), (AB, True)]), fewest_switches, rule, Road([AB], []), 9)
        self.keeps({(AB, False, 1): 0, (AB, True, 0): 0, (AB, True, 2): 0}, switch_levels, rule, Road([AB], []), 9, 0)

    def test_few_switches_go_ahead_of_few_calls(self):
        rule = Rule(4, {A: [((), 1), ((), 2), ((), 3), ((), None)], B: [((), 1), ((), None), ((), None), ((), 3)]})
        road = Road([A], [(A, B), (B, A)])
        self.keeps((0, [(A, False)] * 4), fewest_switches, rule, road, 7)
        blocked = rule.with_call(A, 3, (((0, 0),), None))
        self.keeps((1, [(A, False), (B, False)]), fewest_switches, blocked, road, 7)
        blocked = blocked.with_call(B, 1, (((0, 1),), None))
        self.keeps((1, [(A, False), (A, False), (B, False)]), fewest_switches, blocked, road, 7)
        self.keeps((1, [(A, False), (B, False)]), fewest_switches, blocked, road, 6)

    def test_first_of_several_shortest_runs_with_as_few(self):
        rule = Rule(3, {
            A: [((), 1), ((), 2), (((0, 0),), None)], AB: [((), 1), ((), 2), ((), None)],
            B: [((), 1), ((), 2), ((), None)]})
        self.keeps((0, [(AB, False)] * 3), fewest_switches, rule, full_road([A, AB, B]), 5)
        self.keeps((0, [(B, False)] * 3), fewest_switches, rule, full_road([A, B]), 5)
        road = Road([A], [(A, AB), (A, B), (AB, B), (B, AB)])
        self.keeps((1, [(A, False), (A, False), (AB, False)]), fewest_switches, rule, road, 5)
        self.keeps((1, [(A, False), (A, False), (B, False)]), fewest_switches, rule, road.without([(A, AB)]), 5)
        other = rule.with_call(A, 1, (((0, 0),), 2)).with_call(AB, 1, (((0, 0),), 2))
        self.keeps((1, [(A, False), (AB, True), (AB, False)]), fewest_switches, other, road, 5)
        # A shorter way that needs no fewer switches goes ahead of one that comes first.
        skip = rule.with_call(B, 1, ((), None))
        self.keeps((1, [(A, False), (B, False)]), fewest_switches, skip, road, 5)

    def test_fewest_against_the_words(self):
        seen = {}
        for world in some_worlds(51, 150) + long_worlds(51, 60, lists_all=0.4):
            for code in CODES:
                pairs = world.misses(code)
                wanted = None
                if pairs:
                    (many, calls), run = min(pairs.items())
                    wanted = (many, run)
                self.keeps(wanted, fewest_switches, world.rule, world.road, code)
                seen[wanted and wanted[0]] = seen.get(wanted and wanted[0], 0) + 1
                if wanted:
                    self.assertIs(is_whole(world.rule, world.road, wanted[1]), True)
                    self.assertNotIn(True, listed(world.rule, world.road, wanted[1], code))
        for number in (None, 0, 1, 2, 3):
            self.assertGreater(seen[number], 4, seen)

    def test_levels_for_each_number(self):
        for world in some_worlds(52, 100) + long_worlds(52, 40):
            for code in (0, 3):
                pairs = world.misses(code)
                least = min(pairs)[0] if pairs else None
                for number in sorted({0, 1, 2, 3, 10 ** 39} | ({least, least + 1} if pairs else set())):
                    paper = self.fresh(switch_levels, world.rule, world.road, code, number)
                    self.assertIs(paper is None, least is not None and least < number)
                    if paper is not None:
                        self.assertIs(are_levels(world, code, number, paper), True)
                        self.assertIs(is_switch_levels(world.rule, world.road, code, number, paper), True)
                        turned = dict(reversed(list(paper.items())))
                        self.assertIs(is_switch_levels(world.rule, world.road, code, number, turned), True)
                        if least is not None:
                            self.assertIs(is_switch_levels(world.rule, world.road, code, least + 1, paper), False)

    def test_near_levels(self):
        seen = {True: 0, False: 0}
        for world in some_worlds(53, 80, widths=(0, 1)):
            for code in (0, 1):
                pairs = world.misses(code)
                number = min(pairs)[0] if pairs else 2
                paper = switch_levels(world.rule, world.road, code, number)
                low = {key: 0 for key in paper}
                for start, least in [(paper, number), (low, 0), (low, 1), (paper, max(0, number - 1))]:
                    for thing in bent(start, world.situations(), lambda level: [level - 1, level + 1, level + 5]):
                        wanted = are_levels(world, code, least, thing)
                        seen[wanted] += 1
                        self.assertIs(is_switch_levels(world.rule, world.road, code, least, thing), wanted, thing)
        self.assertGreater(min(seen.values()), 200)

    def test_worths_that_are_no_levels(self):
        road = Road([B], [(B, A)])
        paper = {(A, False, 1): 1, (B, False, 0): 0}
        self.keeps(paper, switch_levels, RULE, road, 3, 1)
        self.assertIs(is_switch_levels(RULE, road, 3, 1, paper), True)
        self.assertIs(is_switch_levels(RULE, road, 3, 0, paper), True)
        self.assertIs(is_switch_levels(RULE, road, 3, 2, paper), False)
        for key, right in paper.items():
            for worth in ODD:
                wanted = repr(worth) == repr(right)
                self.assertIs(is_switch_levels(RULE, road, 3, 1, {**paper, key: worth}), wanted, (key, worth))
                if not isinstance(worth, int) or worth is False or worth is True:
                    self.assertIs(is_switch_levels(RULE, road, 3, 0, {**paper, key: worth}), False, (key, worth))
        for thing in list(no_papers(paper)) + ODD:
            self.assertIs(is_switch_levels(RULE, road, 3, 1, thing), False, thing)
        # A key that waits and that no run comes to; one that does not wait.
        far = Road([B], [(B, A), (C, B)])
        wide = Rule(2, {**RULE.calls, C: [((), 1), ((), None)]})
        for more, wanted in [({(C, False, 1): 1}, True), ({(C, False, 1): 0}, False), ({(C, False, 0): 1}, False),
                             ({(C, False, 0): 1, (C, False, 1): 1}, True),
                             ({(C, False, 0): 0, (C, False, 1): 1}, False),
                             ({(A, False, 0): 1}, False), ({(B, False, 1): 1}, False)]:
            self.assertIs(is_switch_levels(wide, far, 3, 1, {**paper, **more}), wanted, more)

    def test_levels_at_the_beginning_are_0(self):
        self.assertIs(is_switch_levels(RULE, Road([B], [(B, A)]), 3, 1, {(A, False, 1): 2, (B, False, 0): 1}), False)
        ends = Rule(1, {A: [((), None)]})
        for level, number, wanted in [(0, 0, True), (0, 1, False), (1, 1, False), (1, 0, False)]:
            self.assertIs(is_switch_levels(ends, Road([A], []), 3, number, {(A, False, 0): level}), wanted)

    def test_every_number_if_no_run_misses_the_hash(self):
        rule = Rule(1, {A: [((), 0)], B: [(((0, 0),), 0)]})
        for number in (0, 1, 2, 10 ** 39, 10 ** 40 - 1):
            paper = {(A, False, 0): 0, (B, False, 0): 0}
            self.keeps(paper, switch_levels, rule, ROAD, 1, number)
            self.assertIs(is_switch_levels(rule, ROAD, 1, number, paper), True)
        self.keeps({(A, False, 0): 0}, switch_levels, rule, ROAD, 2, 10 ** 39)
        self.keeps({}, switch_levels, rule, Road([B], [(A, B)]), 0, 5)

    def test_weakest_against_the_words(self):
        seen = {}
        for world in some_worlds(54, 30) + long_worlds(54, 20, cursors=6):
            found = []
            for code in range(32):
                pairs = world.misses(code)
                if pairs:
                    found.append((min(pairs)[0], code))
            wanted = min(found) if found else None
            self.keeps(wanted, weakest, world.rule, world.road)
            seen[wanted] = seen.get(wanted, 0) + 1
        self.assertGreater(len(seen), 5, seen)

    def test_weakest_of_several_hashes(self):
        rule = Rule(1, {(3,): [(tuple((0, at) for at in range(8) if at not in (3, 5)), None)]})
        self.keeps((0, 3), weakest, rule, full_road([(3,)]))
        rule = Rule(1, {(5,): [(tuple((0, at) for at in range(31)), None)]})
        self.keeps((0, 31), weakest, rule, full_road([(5,)]))
        self.keeps(None, weakest, Rule(1, {A: [(((0, 0),), None)]}), full_road([A]))
        self.keeps(None, weakest, Rule(1, {A: [((), 0)]}), full_road([A]))
        self.keeps((0, 0), weakest, Rule(1, {A: [((), None)]}), full_road([A]))
        # Hash 2 is missed with one switch, 5 and 13 with none.
        both = Rule(2, {(3,): [(tuple((0, at) for at in range(8) if at not in (2, 5)), 1),
                               (tuple((0, at) for at in range(8) if at != 5), None)], A: [(((0, 0),), 1), ((), None)]})
        self.keeps((0, 5), weakest, both, full_road([A, (3,)]))
        self.keeps((1, 2), weakest, both.with_call((3,), 1, (tuple(places_of((3,))), None)), full_road([A, (3,)]))

    def test_errors_in_their_order(self):
        self.errors_of_questions(fewest_switches, RULE, ROAD, [])
        for function, rest in [(switch_levels, [1]), (is_switch_levels, [1, {}]), (is_switch_levels, [1, None])]:
            self.errors_of_questions(function, RULE, ROAD, rest, [(InvalidNumber, NO_NUMBERS)])
        for road in (Road([A, C], []), Road([A], [(A, C)]), full_road([AB])):
            self.raises(Mismatch, weakest, RULE, road)

    def test_64_cursors_and_twelve_shapes(self):
        road = full_road(TWELVE)
        # Two cursors in turns leave out the hashes with each shape alone.
        shapes = sorted(TWELVE)
        calls = {shape: [((), at + 1 if at < 63 else None) if at % 12 == index else (tuple(places_of(shape)), 0)
                         for at in range(64)] for index, shape in enumerate(shapes)}
        rule = Rule(64, calls)
        number, run = fewest_switches(rule, road, 31)
        self.same([number, len(run), is_run(rule, road, run), [shape for shape, _ in run]], [
            63, 64, True, [shapes[at % 12] for at in range(64)]])
        paper = self.fresh(switch_levels, rule, road, 31, 63)
        self.same([is_switch_levels(rule, road, 31, at, paper) for at in (62, 63, 64)], [True, True, False])
        self.same([switch_levels(rule, road, 31, 64), weakest(rule, road)], [None, (63, 0)])
        less = road.without([(shapes[2], shapes[3])])
        self.same([fewest_switches(rule, less, 31), weakest(rule, less)], [None, None])

    def test_many_cursors_at_random(self):
        source, road = random.Random(55), full_road(TWELVE)
        for ends, tells in [(0.0, 0.6), (0.01, 0.8), (0.05, 0.9), (0.2, 0.97)]:
            rule = Rule(64, some_calls(source, 64, TWELVE, ends, tells))
            for code in (0, 31):
                fewest = fewest_switches(rule, road, code)
                number = fewest[0] if fewest else 10 ** 6
                paper = switch_levels(rule, road, code, number)
                self.assertIs(is_switch_levels(rule, road, code, number, paper), True)
                self.assertIs(switch_levels(rule, road, code, number + 1) is None, fewest is not None)
                if fewest:
                    run = fewest[1]
                    self.assertIs(is_whole(rule, road, run), True)
                    self.assertNotIn(True, listed(rule, road, run, code))
                    self.assertEqual(sum(one[0] != two[0] for one, two in zip(run, run[1:])), number)
