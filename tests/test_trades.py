"""Promises 2, 7, 8, 9 and 20: trades."""

import random

from seencursors.errors import InvalidPairs
from seencursors.roads import Road, full_road
from seencursors.rules import Rule
from seencursors.runs import is_run, is_whole, listed
from seencursors.switches import fewest_switches
from seencursors.missed import missed_run
from seencursors.trades import fronts, is_fronts, trade

from helpers import NO_NUMBERS, ODD, SHAPES, Case, bent, no_papers, places_of
from model import are_fronts, as_good, long_worlds, some_calls, some_worlds

A, B, AB, C = (0,), (1,), (0, 1), (2,)
RULE = Rule(2, {A: [(((0, 0),), None), ((), None)], B: [(((0, 0),), 1), (((0, 1),), None)]})
ROAD = full_road([A, B])
CODES = (0, 1, 3, 31)
# With A a listing goes on by one cursor, with B sometimes by three: a switch from the one to the other saves calls.
STEPS = Rule(7, {A: [((), at + 1 if at < 6 else None) for at in range(7)],
                 B: [((), at + 3 if at in (0, 1, 3) else at + 1 if at < 6 else None) for at in range(7)]})


def best_pairs(pairs):
    return sorted(pair for pair in pairs if not any(other != pair and as_good([other], pair) for other in pairs))


def changed_fronts(row):
    """Lists of pairs near one: a pair left out, twice, put in, better or worse, tuples for lists or the other way."""
    found = [[], row + row, row[::-1], tuple(row), [list(pair) for pair in row], row + [(0, 0)], row + [(9, 9)]]
    for at, (many, calls) in enumerate(row):
        found.append(row[:at] + row[at + 1:])
        for pair in [(many + 1, calls), (many, calls + 1), (many - 1, calls), (many, calls - 1), (many + 1, calls - 1),
                     (many, calls, 0), (many,), (bool(many), calls), (many, bool(calls)), (many, None)]:
            found.append(row[:at] + [pair] + row[at + 1:])
    return found


class TradesTest(Case):

    def test_examples(self):
        self.same([trade(RULE, ROAD, 1), trade(RULE, ROAD, 0), fronts(RULE, ROAD, 1, [(0, 9)])],
                  [[(1, 2, [(B, False), (A, False)])], [], None])
        self.same(is_fronts(RULE, ROAD, 1, [(1, 2)], {(B, False, 0): [(0, 1)], (A, False, 1): [(1, 2)]}), True)

    def test_named(self):
        self.same(trade(code=1, road=ROAD, rule=RULE), [(1, 2, [(B, False), (A, False)])])
        self.same(fronts(pairs=[(1, 2)], code=1, road=ROAD, rule=RULE),
                  {(A, False, 1): [(1, 2)], (B, False, 0): [(0, 1)]})
        self.same(is_fronts(thing={}, pairs=[], code=0, road=ROAD, rule=RULE), True)

    def test_the_more_switches_the_sooner(self):
        self.check_trade(STEPS, Road([A], [(A, B), (B, A)]), 31, [(0, 7), (1, 5)])
        shapes = [(0,), (1,), (2,), (3,), (4,), (5,)]
        # Each further shape goes on by one cursor more, and only the shape ahead leads to it.
        calls = {(index,): [((), at + 1 + index if at + 1 + index < 16 else None) for at in range(16)]
                 for index in range(6)}
        rule, road = Rule(16, calls), Road([(0,)], [((at,), (at + 1,)) for at in range(5)])
        self.check_trade(rule, road, 0, [(0, 16), (1, 9), (2, 7), (3, 6)])
        self.same([row[:2] for row in trade(rule, Road([(5,)], []), 0)], [(0, 3)])
        self.same(len(trade(rule, full_road(shapes), 0)), 1)

    def check_trade(self, rule, road, code, wanted):
        found = self.fresh(trade, rule, road, code)
        self.same([row[:2] for row in found], wanted)
        for many, calls, run in found:
            self.assertIs(is_run(rule, road, run) and is_whole(rule, road, run), True)
            self.assertNotIn(True, listed(rule, road, run, code))
            self.same([sum(one[0] != two[0] for one, two in zip(run, run[1:])), len(run)], [many, calls])

    def test_trade_against_the_words(self):
        seen = {}
        for world in some_worlds(61, 100) + long_worlds(61, 60):
            for code in CODES:
                wanted = best_pairs(world.misses(code))
                seen[len(wanted)] = seen.get(len(wanted), 0) + 1
                self.check_trade(world.rule, world.road, code, wanted)
                found = trade(world.rule, world.road, code)
                missed, fewest = missed_run(world.rule, world.road, code), fewest_switches(world.rule, world.road, code)
                self.same(found == [], missed is None)
                if found:
                    self.same([found[-1][1], found[0][0], found[0][1]], [len(missed), fewest[0], len(fewest[1])])
        self.assertGreater(min(seen[many] for many in (0, 1, 2)), 25, seen)

    def test_fronts_for_better_and_worse_pairs(self):
        seen = {True: 0, False: 0}
        for world in some_worlds(62, 60) + long_worlds(62, 40):
            for code in (0, 3):
                best = best_pairs(world.misses(code))
                worse = [(many + 1, calls + 1) for many, calls in best]
                given = [best, best[::-1], best + worse, [], [(0, 0)], [(0, 1)], [(10 ** 39, 0)], [(0, 10 ** 39)]]
                given += [[pair for pair in best if pair != part] for part in best]
                given += [worse, [(many, calls - 1) for many, calls in best]]
                given += [[(max(0, many - 1), calls) for many, calls in best][-1:]]
                for pairs in given:
                    paper = self.fresh(fronts, world.rule, world.road, code, pairs)
                    wanted = all(as_good(pairs, pair) for pair in best)
                    seen[wanted] += 1
                    self.assertIs(paper is not None, wanted)
                    if wanted:
                        self.assertIs(are_fronts(world, code, pairs, paper), True)
                        self.assertIs(is_fronts(world.rule, world.road, code, pairs, paper), True)
                        turned = {key: row[::-1] + row for key, row in reversed(list(paper.items()))}
                        self.assertIs(is_fronts(world.rule, world.road, code, pairs, turned), True)
                        for part in best:
                            less = [pair for pair in pairs if not as_good([pair], part)]
                            self.assertIs(is_fronts(world.rule, world.road, code, less, paper), False)
        self.assertGreater(min(seen.values()), 200)

    def test_near_fronts(self):
        seen = {True: 0, False: 0}
        for world in some_worlds(63, 40, widths=(0, 1)) + long_worlds(63, 4, cursors=4):
            for code in (0, 1):
                pairs = best_pairs(world.misses(code))
                paper = fronts(world.rule, world.road, code, pairs)
                low = {key: [(0, 0)] for key in paper}
                for start, given in [(paper, pairs), (low, [(0, 0)]), (paper, pairs + [(3, 3)])]:
                    for thing in bent(start, world.situations()[:6], changed_fronts):
                        wanted = are_fronts(world, code, given, thing)
                        seen[wanted] += 1
                        self.assertIs(is_fronts(world.rule, world.road, code, given, thing), wanted, (given, thing))
        self.assertGreater(min(seen.values()), 500)

    def test_worths_that_are_no_lists_of_pairs(self):
        road = Road([B], [(B, A)])
        paper = {(A, False, 1): [(1, 2)], (B, False, 0): [(0, 1)]}
        self.keeps(paper, fronts, RULE, road, 3, [(1, 2)])
        self.assertIs(is_fronts(RULE, road, 3, [(1, 2)], paper), True)
        for key in paper:
            for worth in ODD + [
                    [(1, 2), None], [(1, 2), 0], [(1, 2), [0, 1]], ((1, 2),), [[1, 2]], [(True, 2), (0, 1)], [1, 2],
                    [(0, 1), (1, 2), (-1, 9)], [(0, 1), (1, 2), (1, 2, 3)], [(0, 1), (1, 2), ()], {(0, 1): (1, 2)}]:
                if worth != []:
                    self.assertIs(is_fronts(RULE, road, 3, [(1, 2)], {**paper, key: worth}), False, (key, worth))
                    self.assertIs(is_fronts(RULE, road, 3, [(0, 0)], {**paper, key: worth}), False, (key, worth))
        for thing in list(no_papers(paper)) + ODD:
            self.assertIs(is_fronts(RULE, road, 3, [(1, 2)], thing), False, thing)

    def test_empty_lists_of_pairs(self):
        road = Road([B], [(B, A)])
        paper = {(A, False, 1): [(1, 2)], (B, False, 0): [(0, 1)]}
        for more, wanted in [({(A, False, 1): []}, False), ({(B, False, 0): []}, False), ({}, True)]:
            self.assertIs(is_fronts(RULE, road, 3, [(1, 2)], {**paper, **more}), wanted, more)
        wide = Rule(2, {**RULE.calls, C: [((), 1), ((), 0)]})
        far = Road([B], [(B, A), (C, B)])
        # Behind a key without pairs nothing is asked for; behind one with pairs (C, False, 1) is missing.
        for more, wanted in [({(C, False, 0): []}, True), ({(C, False, 0): [(0, 5)]}, False),
                             ({(C, False, 0): [(0, 5)], (C, False, 1): []}, False),
                             ({(C, False, 0): [(0, 5)], (C, False, 1): [(0, 0)]}, False),
                             ({(C, False, 1): [(5, 5)], (C, False, 0): [(5, 6)]}, True),
                             ({(C, False, 1): [(5, 5)], (C, False, 0): [(5, 7)]}, False),
                             ({(C, False, 1): [(4, 0)], (C, False, 0): [(4, 0)]}, True),
                             ({(C, False, 1): [], (C, False, 0): []}, True)]:
            self.assertIs(is_fronts(wide, far, 3, [(1, 2)], {**paper, **more}), wanted, more)

    def test_fronts_for_no_pairs(self):
        rule = Rule(1, {A: [((), 0)], B: [(((0, 0),), 0)]})
        paper = self.fresh(fronts, rule, full_road([A]), 1, [])
        self.assertIs(is_fronts(rule, full_road([A]), 1, [], paper), True)
        self.keeps({}, fronts, rule, full_road([B]), 2, [])
        self.keeps(None, fronts, Rule(1, {A: [((), None)]}), full_road([A]), 0, [])
        self.assertIs(is_fronts(Rule(1, {A: [((), None)]}), full_road([A]), 0, [], {(A, False, 0): [(0, 1)]}), False)

    def test_errors_in_their_order(self):
        self.errors_of_questions(trade, RULE, ROAD, [])
        wrong = [thing for thing in ODD if thing != []] + [
            [(1, 2), (1, 2)], ((1, 2),), [[1, 2]], [(1,)], [(1, 2, 3)], [(1, -1)], [(-1, 1)], [(1, 2), None],
            [(True, 2)], [(1, False)], [(1, None)], [("1", 2)], [(0, 1), (0, 2), (0, 1)], {(1, 2): 0}, [()], [(1, [2])],
            [(1, (2,))]]
        for function, rest in [(fronts, [[(1, 2)]]), (is_fronts, [[(1, 2)], {}]), (is_fronts, [[], None])]:
            self.errors_of_questions(function, RULE, ROAD, rest, [(InvalidPairs, wrong)])
        for number in NO_NUMBERS:
            self.raises(InvalidPairs, fronts, RULE, ROAD, 1, [(number, 1)])
            self.raises(InvalidPairs, fronts, RULE, ROAD, 1, [(1, 1), (1, number)])

    def test_sixteen_cursors_and_six_shapes(self):
        source, road = random.Random(64), full_road(SHAPES[5:11])
        longest = 0
        for tells, steps in [(0.2, (1,)), (0.3, (1, 1, 2, 3)), (0.5, (1, 2)), (0.0, (1, 2, 3))]:
            calls = some_calls(source, 16, road.shapes, 0.0, tells)
            calls = {shape: [(listing, at + source.choice(steps) if at < 13 else None)
                             for at, (listing, _) in enumerate(row)] for shape, row in calls.items()}
            rule = Rule(16, calls)
            for code in (0, 17, 31):
                found = self.fresh(trade, rule, road, code)
                longest = max(longest, len(found))
                pairs = [row[:2] for row in found]
                self.check_trade(rule, road, code, pairs)
                paper = self.fresh(fronts, rule, road, code, pairs)
                self.assertIs(is_fronts(rule, road, code, pairs, paper), True)
                for pair in pairs:
                    self.assertIs(fronts(rule, road, code, [part for part in pairs if part != pair]), None)
        self.assertGreater(longest, 1)

    def test_long_lists_of_pairs(self):
        pairs = [(at, 10 ** 39 - at) for at in range(800)]
        self.assertIs(is_fronts(STEPS, full_road([A, B]), 0, [(0, 0)], {
            (shape, False, at): [(0, 0)] + pairs for shape in (A, B) for at in range(7)}), True)
        self.assertIs(is_fronts(RULE, ROAD, 1, pairs + [(1, 2)], {(B, False, 0): [(0, 1)] + pairs,
                                                                 (A, False, 1): [(1, 2)] + pairs}), True)

    def test_places_of_both_tables(self):
        rule = Rule(2, {AB: [(((0, 0),), 1), (((1, 1),), None)], A: [((), 1), (tuple(places_of(A)), None)]})
        self.same(trade(rule, full_road([AB, A]), 1)[0][:2], (0, 2))
        self.same(trade(rule, full_road([AB, A]), 1)[0][2], [(AB, True), (AB, False)])
        self.keeps([(0, 2, [(AB, True), (AB, False)])], trade, rule, Road([AB], []), 1)
