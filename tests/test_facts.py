"""Promise 9: what holds between the functions, over many small rules and roads."""

import random

from seencursors.doubts import chain, doubt_run, in_doubt
from seencursors.hindsight import barrier, hindsight, run_with
from seencursors.missed import closed_set, concerns, missed_run
from seencursors.roads import Road
from seencursors.smallest import pairs, smallest
from seencursors.stops import latest_stop, stop_paper
from seencursors.switches import fewest_switches, switch_levels, weakest
from seencursors.traces import is_trace, nexts, shapes_at
from seencursors.trades import fronts, trade
from seencursors.waits import longest_wait, wait_heights, waiting_loop

from helpers import Case
from model import long_worlds, some_calls, some_worlds

CODES = (0, 1, 2, 3, 31)
INFINITE = 10 ** 9


def worlds_of(seed, many=60):
    return some_worlds(seed, many) + some_worlds(seed + 1, many, tells=(0.7,), ends=(0.2,)) + long_worlds(
        seed, many // 6, cursors=5)


def number_of(found):
    """The number of an answer (number, ..), None as greater than all numbers."""
    return INFINITE if found is None else found[0]


def traces_of(rule, road, most):
    """All traces of at most so many numbers, by nexts."""
    rows = [[]]
    for trace in rows:
        if len(trace) < most:
            rows.extend(trace + [number] for number in nexts(rule, road, trace))
    return rows


def answers(rule, road, code):
    """What rules that do the same have in common."""
    return [number_of(longest_wait(rule, road, code)), number_of(fewest_switches(rule, road, code)),
            [row[:2] for row in trade(rule, road, code)]]


class FactsTest(Case):

    def test_a_missed_run_or_a_closed_set_and_what_goes_with_them(self):
        for world in worlds_of(111):
            for code in CODES:
                asked = (world.rule, world.road, code)
                missed, few, best = missed_run(*asked), fewest_switches(*asked), trade(*asked)
                self.assertIs(missed is None, closed_set(*asked) is not None)
                self.assertIs(missed is None, few is None)
                self.assertIs(missed is None, not best)
                self.assertIs(missed is None, switch_levels(*asked, 10 ** 39) is not None)
                self.assertIs(missed is None, fronts(*asked, []) is not None)
                if missed is not None:
                    self.assertEqual([best[-1][1], best[0][0], best[0][1]], [len(missed), few[0], len(few[1])])
                    self.assertIsNotNone(switch_levels(*asked, few[0]))
                    self.assertIsNone(switch_levels(*asked, few[0] + 1))
                    self.assertIsNotNone(fronts(*asked, [row[:2] for row in best]))
                    self.assertLessEqual(len(missed), number_of(longest_wait(*asked)))

    def test_a_greatest_wait_or_a_loop(self):
        for world in worlds_of(113):
            for code in CODES:
                asked = (world.rule, world.road, code)
                longest = longest_wait(*asked)
                self.assertIs(longest is None, waiting_loop(*asked) is not None)
                self.assertIs(wait_heights(*asked, INFINITE) is None, longest is None)
                if longest is not None:
                    self.assertIsNotNone(wait_heights(*asked, longest[0]))
                    self.assertIsNone(wait_heights(*asked, longest[0] - 1) if longest[0] else None)

    def test_weakest_is_the_least_of_all(self):
        for world in worlds_of(115, 30):
            found = [(number_of(fewest_switches(world.rule, world.road, code)), code) for code in range(32)]
            least = min(found)
            self.same(weakest(world.rule, world.road), None if least[0] == INFINITE else least)

    def test_rules_that_do_the_same(self):
        fewer = 0
        for world in worlds_of(117):
            least = smallest(world.rule)
            fewer += least.cursors < world.cursors
            for code in CODES:
                self.same(answers(least, world.road, code), answers(world.rule, world.road, code))
            self.same(number_of(latest_stop(least, world.road)), number_of(latest_stop(world.rule, world.road)))
            name = {-1: -1, **{cursor: other for cursor, other in pairs(world.rule, least)}}
            for trace in traces_of(world.rule, world.road, 3):
                other = [name[number] for number in trace]
                self.assertIs(is_trace(least, world.road, other), True)
                doubts = in_doubt(world.rule, world.road, trace)
                self.assertLessEqual(set(doubts), set(in_doubt(least, world.road, other)))
        self.assertGreater(fewer, 10)

    def test_either_a_run_or_a_paper_behind_each_trace(self):
        for world in worlds_of(119, 25):
            for trace in traces_of(world.rule, world.road, 4)[::2]:
                doubts = in_doubt(world.rule, world.road, trace)
                for code in CODES:
                    found = [function(world.rule, world.road, trace, code) for function in (doubt_run, chain)]
                    self.same([found[0] is not None, found[1] is None], [code in doubts] * 2)
                lists = hindsight(world.rule, world.road, trace)
                for index, row in enumerate(lists):
                    for shape in world.shapes:
                        found = [function(world.rule, world.road, trace, index, shape)
                                 for function in (run_with, barrier)]
                        self.same([found[0] is not None, found[1] is None], [shape in row] * 2)

    def test_longer_traces(self):
        for world in worlds_of(121):
            for trace in traces_of(world.rule, world.road, 4):
                lists, doubts = hindsight(world.rule, world.road, trace), in_doubt(world.rule, world.road, trace)
                self.same(len(lists), len(trace))
                if trace:
                    self.same(lists[-1], shapes_at(world.rule, world.road, trace))
                    for row, wider in zip(lists, hindsight(world.rule, world.road, trace[:-1])):
                        self.assertLessEqual(set(row), set(wider))
                    self.assertLessEqual(set(doubts), set(in_doubt(world.rule, world.road, trace[:-1])))

    def test_what_doubts_hang_on(self):
        """Traces with the same last numbers and doubts with each shape have the same doubts behind each next number."""
        alike = 0
        for world in worlds_of(123, 40):
            known = {}
            for trace, rows in world.by_trace(4).items():
                if len(trace) < 2 or trace[-2] == -1:
                    continue
                ahead = [row for row in world.by_trace(len(trace) - 1)[trace[:-1]]]
                shapes = {}
                for _, parts in ahead:
                    codes = {code for code in range(32) if world.waits(code, parts)}
                    shapes[parts[-1][0]] = shapes.get(parts[-1][0], set()) | codes
                key = (trace[-2:], tuple((shape, tuple(sorted(shapes[shape]))) for shape in sorted(shapes)))
                doubts = in_doubt(world.rule, world.road, list(trace))
                alike += key in known
                self.same(known.setdefault(key, doubts), doubts)
        self.assertGreater(alike, 50)

    def test_the_latest_stop_and_waits_that_go_on(self):
        for world in worlds_of(125):
            latest = latest_stop(world.rule, world.road)
            loops = [code for code in range(32) if waiting_loop(world.rule, world.road, code) is not None]
            self.assertIs(latest is None, bool(loops))
            self.assertIs(latest is None, stop_paper(world.rule, world.road, INFINITE) is None)
            if latest is not None:
                self.assertIsNotNone(stop_paper(world.rule, world.road, latest[0]))
                self.assertIsNone(stop_paper(world.rule, world.road, latest[0] - 1))
                self.assertLessEqual(latest[0], 1 + max(number_of(longest_wait(world.rule, world.road, code))
                                                        for code in range(32)))

    def test_who_stops_makes_no_more_calls(self):
        """Behind no trace of as many numbers as the latest stop one goes on; behind one with one less somebody may."""
        for world in worlds_of(127, 30):
            latest = latest_stop(world.rule, world.road)
            if latest is not None and latest[0] <= 4:
                rows = [trace for trace in traces_of(world.rule, world.road, latest[0])
                        if -1 not in trace and in_doubt(world.rule, world.road, trace)]
                self.assertEqual(max(len(trace) for trace in rows), latest[0] - 1)

    def test_forbidden_changes(self):
        source = random.Random(129)
        for world in worlds_of(129):
            if not world.changes:
                continue
            gone = source.sample(world.changes, source.randint(1, len(world.changes)))
            less = world.road.without(gone)
            self.assertEqual(less, Road(world.begin, [change for change in world.changes if change not in gone]))
            for code in CODES:
                self.assertLessEqual(number_of(longest_wait(world.rule, less, code)),
                                     number_of(longest_wait(world.rule, world.road, code)))
                self.assertGreaterEqual(number_of(fewest_switches(world.rule, less, code)),
                                        number_of(fewest_switches(world.rule, world.road, code)))
            stops = [number_of(latest_stop(world.rule, road)) for road in (less, world.road)]
            self.assertLessEqual(stops[0], stops[1])
            for trace in traces_of(world.rule, less, 3):
                self.assertIs(is_trace(world.rule, world.road, trace), True)
                self.assertLessEqual(set(in_doubt(world.rule, less, trace)),
                                     set(in_doubt(world.rule, world.road, trace)))

    def test_another_call_that_concerns_no_hash(self):
        source, changed = random.Random(131), 0
        for world in worlds_of(131, 40):
            shape, cursor = source.choice(world.shapes), source.randrange(world.cursors)
            call = some_calls(source, world.cursors, [shape])[shape][0]
            other = world.rule.with_call(shape, cursor, call)
            traces = [trace for trace in traces_of(world.rule, world.road, 3) if is_trace(other, world.road, trace)]
            for code in range(0, 32, 5):
                if (shape, cursor) not in concerns(world.rule, world.road, code):
                    changed += other != world.rule
                    self.same(missed_run(other, world.road, code), missed_run(world.rule, world.road, code))
                    self.same(answers(other, world.road, code), answers(world.rule, world.road, code))
                    for trace in traces:
                        self.assertIs(code in in_doubt(other, world.road, trace),
                                      code in in_doubt(world.rule, world.road, trace))
        self.assertGreater(changed, 50)
