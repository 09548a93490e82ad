"""Promises 2, 7, 8, 9 and 18: waits."""

import random

from seencursors.errors import InvalidNumber
from seencursors.roads import Road, full_road
from seencursors.rules import Rule
from seencursors.runs import is_run
from seencursors.waits import is_wait_heights, is_waiting_loop, longest_wait, wait_heights, waiting_loop

from helpers import LARGE, NO_NUMBERS, ODD, TWELVE, Case, bent, moved_with, no_papers, places_of
from model import World, are_heights, some_calls, some_worlds

A, B, AB = (0,), (1,), (0, 1)
RULE = Rule(2, {A: [(((0, 0),), None), ((), None)], B: [(((0, 0),), 1), (((0, 1),), None)]})
ROAD = full_road([A, B])
SPIN = Rule(1, {B: [(((0, 0),), 0)]})
CODES = (0, 1, 2, 3, 31)


def is_loop_by_words(world, code, thing):
    """Whether a tuple of a run and an index is a waiting loop, as the document puts it."""
    run, index = thing
    parts, cursor = [], 0
    for shape, moved in run:
        parts.append((shape, moved, cursor))
        cursor = world.calls[shape][cursor][1] if cursor is not None else None
    right = parts and parts[0] in world.first() and all(
        other in world.behind(part) for part, other in zip(parts, parts[1:]))
    return bool(right) and world.waits(code, parts) and 0 <= index < len(parts) and (
        parts[index] in world.behind(parts[-1]))


class WaitsTest(Case):

    def test_examples(self):
        self.same([longest_wait(RULE, ROAD, 1), longest_wait(RULE, ROAD, 0), wait_heights(RULE, ROAD, 1, 1)],
                  [(2, [(B, False), (A, False)]), (0, []), None])
        self.same([is_wait_heights(RULE, ROAD, 1, 2, {(B, False, 0): 2, (A, False, 1): 1}),
                   waiting_loop(SPIN, Road([B], []), 1)], [True, ([(B, False)], 0)])

    def test_named(self):
        self.same(longest_wait(code=1, road=ROAD, rule=RULE), (2, [(B, False), (A, False)]))
        self.same(wait_heights(number=2, code=1, road=ROAD, rule=RULE), {(A, False, 1): 1, (B, False, 0): 2})
        self.same(is_wait_heights(thing={}, number=2, code=0, road=ROAD, rule=RULE), True)
        self.same(waiting_loop(code=1, road=ROAD, rule=RULE), None)
        self.same(is_waiting_loop(thing=([(B, False)], 0), code=1, road=Road([B], []), rule=SPIN), True)

    def test_the_first_calls_list_everything(self):
        rule = Rule(1, {AB: [(((0, 0), (1, 0), (1, 1)), 0)], B: [(((0, 0), (0, 1)), 0)]})
        for code in range(32):
            self.keeps((0, []), longest_wait, rule, full_road([AB, B]), code)
            self.keeps(None, waiting_loop, rule, full_road([AB, B]), code)
            for number in (0, 1, 10 ** 39):
                self.keeps({}, wait_heights, rule, full_road([AB, B]), code, number)
                self.assertIs(is_wait_heights(rule, full_road([AB, B]), code, number, {}), True)

    def test_longest_against_the_words(self):
        seen = {True: 0, False: 0}
        for world in some_worlds(41, 200):
            for code in CODES:
                wanted = world.longest(code)
                seen[wanted is None] += 1
                got = self.fresh(longest_wait, world.rule, world.road, code)
                loop = self.fresh(waiting_loop, world.rule, world.road, code)
                self.assertIs(loop is None, wanted is not None)
                if wanted is None:
                    self.assertIsNone(got)
                    self.assertIs(is_loop_by_words(world, code, loop), True)
                    self.assertIs(is_waiting_loop(world.rule, world.road, code, loop), True)
                else:
                    self.assertEqual(got[0], wanted)
                    self.check_waits(world, code, got[1], wanted)
        self.assertGreater(min(seen.values()), 200)

    def check_waits(self, world, code, run, calls):
        self.assertEqual(len(run), calls)
        if run:
            self.assertIs(is_run(world.rule, world.road, run), True)
            parts, cursor = [], 0
            for shape, moved in run:
                parts.append((shape, moved, cursor))
                cursor = world.later(parts[-1])
            self.assertIs(world.waits(code, parts), True)

    def test_heights_for_each_number(self):
        for world in some_worlds(42, 150):
            for code in (0, 3):
                wanted = world.longest(code)
                numbers = {0, 1, 2, 10 ** 40 - 1} | ({max(0, wanted - 1), wanted, wanted + 1} if wanted else set())
                for number in sorted(numbers):
                    paper = self.fresh(wait_heights, world.rule, world.road, code, number)
                    self.assertIs(paper is None, wanted is None or number < wanted)
                    if paper is not None:
                        self.assertIs(are_heights(world, code, number, paper), True)
                        self.assertIs(is_wait_heights(world.rule, world.road, code, number, paper), True)
                        if wanted:
                            self.assertIs(is_wait_heights(world.rule, world.road, code, wanted - 1, paper), False)
                            turned = dict(reversed(list(paper.items())))
                            self.assertIs(is_wait_heights(world.rule, world.road, code, wanted, turned), True)

    def test_near_heights(self):
        seen = {True: 0, False: 0}
        for world in some_worlds(43, 80, widths=(0, 1), ends=(0.5, 0.7)):
            for code in (0, 1):
                number = world.longest(code)
                if not number:
                    continue
                paper = wait_heights(world.rule, world.road, code, number)
                raised = {key: 3 * height for key, height in paper.items()}
                for start, most in [(paper, number), (paper, number + 1), (raised, 3 * number)]:
                    for thing in bent(start, world.situations(), lambda height: [height - 1, height + 1, height + 7]):
                        wanted = are_heights(world, code, most, thing)
                        seen[wanted] += 1
                        self.assertIs(is_wait_heights(world.rule, world.road, code, most, thing), wanted, thing)
        self.assertGreater(min(seen.values()), 200)

    def test_worths_that_are_no_heights(self):
        rule, road = Rule(2, {B: [((), 1), (((0, 1),), None)]}), Road([B], [])
        paper = {(B, False, 0): 2, (B, False, 1): 1}
        self.keeps(paper, wait_heights, rule, road, 2, 2)
        self.assertIs(is_wait_heights(rule, road, 2, 2, paper), True)
        self.assertIs(is_wait_heights(rule, road, 2, 10 ** 40 - 1, {(B, False, 0): 10 ** 40 - 1, (B, False, 1): 1}),
                      True)
        for key in paper:
            for worth in ODD:
                thing = {**paper, key: worth}
                wanted = key == (B, False, 1) and repr(worth) == "1"
                self.assertIs(is_wait_heights(rule, road, 2, 2, thing), wanted, thing)
            self.assertIs(is_wait_heights(rule, road, 2, 2, {**paper, (B, False, 1): True}), False)
        for thing in list(no_papers(paper)) + ODD:
            self.assertIs(is_wait_heights(rule, road, 2, 2, thing), False, thing)
        self.assertIs(is_wait_heights(rule, road, 3, 1, {(B, False, 0): 1}), True)
        self.assertIs(is_wait_heights(rule, road, 3, 1, {(B, False, 0): 1, (B, False, 1): 1}), False)

    def test_situations_that_no_run_comes_to(self):
        rule = Rule(4, {A: [((), None), ((), 2), ((), 3), ((), 2)], AB: [(((0, 0),), None)] * 4, B: [((), 0)] * 4})
        road = Road([A], [(A, AB)])
        self.keeps({(A, False, 0): 1}, wait_heights, rule, road, 0, 1)
        for more, wanted in [
                ({(A, False, 1): 2}, False), ({(A, False, 1): 3, (A, False, 2): 2, (A, False, 3): 1}, False),
                ({(AB, True, 1): 9}, True), ({(AB, False, 1): 9}, False), ({(AB, True, 1): 10 ** 39}, True),
                ({(B, False, 0): 9}, False), ({(A, False, 4): 1}, False)]:
            self.assertIs(is_wait_heights(rule, road, 0, 1, {(A, False, 0): 1, **more}), wanted, more)
        # No listing begins with cursor 1, from which only a loop is met.
        self.keeps(None, waiting_loop, rule, road, 0)
        self.assertIs(is_waiting_loop(rule, road, 0, ([(A, False)], 0)), False)

    def test_a_shape_that_comes_too_late_or_never(self):
        calls = {A: [((), 1), (((0, 0),), None), ((), None)], B: [((), 2), ((), 2), ((), 2)]}
        rule = Rule(3, calls)
        self.keeps((1, [(A, False)]), longest_wait, rule, Road([A], []), 5)
        self.keeps((1, [(A, False)]), longest_wait, rule, Road([A], [(B, A)]), 5)
        self.keeps(None, longest_wait, rule, Road([A], [(A, B)]), 5)
        self.same(waiting_loop(rule, Road([A], [(A, B)]), 5), ([(A, False), (B, False), (B, False)], 2))
        late = rule.with_call(B, 1, (((0, 0), (0, 1)), 2))
        self.keeps((1, [(A, False)]), longest_wait, late, Road([A], [(A, B)]), 5)
        self.keeps((0, []), longest_wait, rule.with_call(A, 0, (((0, 0),), 1)), Road([A], [(A, B)]), 5)

    def test_loops_near_a_loop(self):
        calls = {A: [((), 1), (((0, 0),), 0), ((), None)], AB: [((), 1), (((0, 0),), 2), (((1, 0),), 1)],
                 B: [((), 0), ((), 0), ((), 0)]}
        world = World(3, calls, [A], [(A, AB), (AB, A)])
        loop = waiting_loop(world.rule, world.road, 0)
        self.assertIs(is_waiting_loop(world.rule, world.road, 0, loop), True)
        steps = [(shape, moved) for shape in (A, AB) for moved in moved_with(shape)]
        rows = [[]]
        seen = {True: 0, False: 0}
        for _ in range(6):
            rows = [run + [step] for run in rows for step in steps]
            rows = rows if len(rows) < 300 else rows[::7]
            for run in rows + [loop[0] * 2, loop[0] + [(A, False)]]:
                for index in range(-2, len(run) + 2):
                    wanted = is_loop_by_words(world, 0, (run, index))
                    seen[wanted] += 1
                    self.assertIs(is_waiting_loop(world.rule, world.road, 0, (run, index)), wanted, (run, index))
        self.assertGreater(min(seen.values()), 3)

    def test_bent_loops(self):
        seen = {True: 0, False: 0}
        for world in some_worlds(44, 60):
            loop = waiting_loop(world.rule, world.road, 2)
            if loop is None:
                continue
            run, index = loop
            last = world.runs(1)[0][0]
            runs = [run, run[:-1], run[1:], run + run[index:], run + run[-1:], run + last, last, run[::-1],
                    run + run[index:index + 1], run * 2]
            runs += [run[:at] + [step] + run[at + 1:] for at in range(len(run)) for step in
                     [(shape, moved) for shape in world.shapes for moved in moved_with(shape)]]
            for other in runs:
                for at in range(-1, len(other) + 1):
                    wanted = is_loop_by_words(world, 2, (other, at))
                    seen[wanted] += 1
                    self.assertIs(is_waiting_loop(world.rule, world.road, 2, (other, at)), wanted, (other, at))
        self.assertGreater(min(seen.values()), 50)

    def test_things_that_are_no_loops(self):
        road, run = Road([B], []), [(B, False)]
        self.assertIs(is_waiting_loop(SPIN, road, 1, (run * 3, 0)), True)
        self.assertIs(is_waiting_loop(SPIN, road, 1, (run * 3, 2)), True)
        wrong = ODD + [
            (run,), (run, 0, 0), [run, 0], (tuple(run), 0), (run, 1), (run, -1), (run, False), (run * 2, True),
            (run, None), (run, "0"), (run, 10 ** 39), (0, run), ([], 0), ([(B, 0)], 0), ([((True,), False)], 0),
            ([(A, False)], 0), ([[B, False]], 0), (run, [0]), ({0: run}, 0), (None, 0), (run + [None], 0)]
        for thing in wrong + [(thing, 0) for thing in ODD] + [(run, thing) for thing in ODD if repr(thing) != "0"]:
            self.assertIs(is_waiting_loop(SPIN, road, 1, thing), False, thing)
        self.assertIs(is_waiting_loop(SPIN, road, 2, (run, 0)), False)
        ends = Rule(1, {B: [((), None)]})
        self.assertIs(is_waiting_loop(ends, road, 2, (run, 0)), False)

    def test_errors_in_their_order(self):
        for function, rest in [(longest_wait, []), (waiting_loop, []), (is_waiting_loop, [([(B, False)], 0)]),
                               (is_waiting_loop, [None])]:
            self.errors_of_questions(function, RULE, ROAD, rest)
        for function, rest in [(wait_heights, [2]), (is_wait_heights, [2, {}]), (is_wait_heights, [2, None])]:
            self.errors_of_questions(function, RULE, ROAD, rest, [(InvalidNumber, NO_NUMBERS)])
        for number in LARGE[:1] + [0, 2, 10 ** 40 - 1]:
            self.assertIs(wait_heights(RULE, ROAD, 1, number) is None, number < 2)

    def test_both_ends_of_the_hashes(self):
        rule = Rule(1, {(5,): [(tuple((0, at) for at in range(1, 31)), None)]})
        for code in range(32):
            self.same(longest_wait(rule, full_road([(5,)]), code), (1, [((5,), False)]) if code in (0, 31) else (0, []))

    def test_64_cursors_and_twelve_shapes(self):
        road = full_road(TWELVE)
        calls = {shape: [((), at + 1 if at < 63 else None) for at in range(64)] for shape in TWELVE}
        rule = Rule(64, calls)
        number, run = longest_wait(rule, road, 31)
        self.same([number, len(run), is_run(rule, road, run)], [64, 64, True])
        paper = self.fresh(wait_heights, rule, road, 31, 64)
        self.same(len(paper), 18 * 64)
        self.same([is_wait_heights(rule, road, 31, number, paper) for number in (63, 64, 65)], [False, True, True])
        paper[(5, 4), True, 40] += 1
        self.assertIs(is_wait_heights(rule, road, 31, 64, paper), False)
        self.same([wait_heights(rule, road, 31, 63), waiting_loop(rule, road, 31)], [None, None])
        round_it = rule.with_call((5, 4), 63, ((), 0))
        self.same([longest_wait(round_it, road, 31), wait_heights(round_it, road, 31, 10 ** 39)], [None, None])
        self.assertIs(is_waiting_loop(round_it, road, 31, waiting_loop(round_it, road, 31)), True)
        told = round_it.with_call((5, 4), 63, (tuple(places_of((5, 4))), 0))
        self.same([longest_wait(told, road, 31)[0], waiting_loop(told, road, 31)], [64, None])

    def test_many_cursors_at_random(self):
        source, road = random.Random(45), full_road(TWELVE)
        for ends, tells in [(0.0, 0.9), (0.1, 0.95), (0.0, 0.97), (0.5, 0.98)]:
            rule = Rule(64, some_calls(source, 64, TWELVE, ends, tells))
            for code in (0, 31):
                longest, loop = longest_wait(rule, road, code), waiting_loop(rule, road, code)
                self.assertIs(longest is None, loop is not None)
                if loop is not None:
                    self.assertIs(is_waiting_loop(rule, road, code, loop), True)
                    self.assertIs(wait_heights(rule, road, code, 10 ** 6), None)
                else:
                    paper = wait_heights(rule, road, code, longest[0])
                    self.assertIs(is_wait_heights(rule, road, code, longest[0], paper), True)
