"""Promises 2, 9 and 26: surprises."""

import random

from seencursors.errors import Mismatch
from seencursors.roads import Road, full_road
from seencursors.rules import Rule
from seencursors.runs import is_run
from seencursors.surprises import calm_set, is_calm_set, surprise
from seencursors.traces import trace_of

from helpers import ODD, Case
from model import World, long_worlds, some_calls, some_worlds

A, B, AB, BA, C = (0,), (1,), (0, 1), (1, 0), (2,)
RULE = Rule(2, {A: [(((0, 0),), None), ((), None)], B: [(((0, 0),), 1), (((0, 1),), None)]})
ROAD = full_road([A, B])


def parts(world, twins):
    """Whether just one of two calls ends."""
    shape, other, cursor = twins
    return (world.calls[shape][cursor][1] is None) != (world.calls[other][cursor][1] is None)


def first_twins(world):
    return {(shape, other, 0) for shape in world.begin for other in world.begin}


def behind_twins(world, twins):
    shape, other, cursor = twins
    later = world.calls[shape][cursor][1]
    if later is None or later != world.calls[other][cursor][1]:
        return set()
    return {(one, two, later) for one in world.after(shape) for two in world.after(other)}


def least_parting(world):
    """The least number of calls of two runs that part at an end, or None."""
    level = first_twins(world)
    for calls in range(1, world.cursors * len(world.shapes) ** 2 + 2):
        if any(parts(world, twins) for twins in level):
            return calls
        level = {later for twins in level for later in behind_twins(world, twins)}
    return None


def is_calm_of(world, rows):
    """[26], for a list of tuples of right shapes and integers."""
    held = set(rows)
    if len(held) < len(rows) or not first_twins(world) <= held:
        return False
    if not all(shape in world.shapes and other in world.shapes and 0 <= cursor < world.cursors
               for shape, other, cursor in rows):
        return False
    return not any(parts(world, twins) for twins in held) and all(behind_twins(world, twins) <= held for twins in held)


def calm_worlds(seed, count):
    """Worlds in which calls with a cursor mostly all end or all go on."""
    source, found = random.Random(seed), []
    for world in some_worlds(seed, count, most_cursors=4, ends=(0.0,)):
        calls = {shape: list(row) for shape, row in world.calls.items()}
        for cursor in range(world.cursors):
            same, ends = source.random() < 0.6, source.random() < 0.4
            later = source.randrange(world.cursors)
            for shape in calls:
                if ends:
                    calls[shape][cursor] = (calls[shape][cursor][0], None)
                elif same:
                    calls[shape][cursor] = (calls[shape][cursor][0], later)
        if source.random() < 0.5:
            shape = source.choice(world.shapes)
            calls[shape][-1] = ((), None)
        found.append(World(world.cursors, calls, world.begin, world.changes))
    return found


class SurprisesTest(Case):

    def test_examples(self):
        self.same([surprise(RULE, ROAD), surprise(RULE, Road([B], []))], [([(A, False)], [(B, False)]), None])
        self.same([calm_set(RULE, Road([B], [])), is_calm_set(RULE, Road([B], []), [(B, B, 0)])],
                  [[(B, B, 0), (B, B, 1)], False])

    def test_named(self):
        self.same(surprise(road=ROAD, rule=RULE), ([(A, False)], [(B, False)]))
        self.assertIn((A, A, 0), calm_set(road=Road([A], []), rule=RULE))
        self.same(is_calm_set(thing=[(A, A, 0)], road=Road([A], []), rule=RULE), True)

    def test_against_the_words(self):
        seen = {}
        worlds = some_worlds(221, 100) + calm_worlds(222, 250) + long_worlds(223, 20)
        for world in worlds:
            least, rows = least_parting(world), self.fresh(calm_set, world.rule, world.road)
            seen[least] = seen.get(least, 0) + 1
            found = self.fresh(surprise, world.rule, world.road)
            self.same([found is None, rows is None], [least is None, least is not None])
            if rows is not None:
                self.assertEqual(rows, sorted(rows))
                self.assertIs(is_calm_of(world, rows), True)
                self.assertIs(is_calm_set(world.rule, world.road, rows), True)
                self.assertIs(is_calm_set(world.rule, world.road, rows[::-1]), True)
                continue
            self.assertIsInstance(found, tuple)
            run, other = found
            for row in found:
                self.assertIs(is_run(world.rule, world.road, row), True)
                self.assertEqual(len(row), least)
            one, two = [trace_of(world.rule, world.road, row) for row in found]
            self.assertEqual(one[:-1], two[:-1])
            self.assertEqual(one[-1], -1)
            self.assertNotEqual(two[-1], -1)
            every = [(shape, other, cursor) for shape in world.shapes for other in world.shapes
                     for cursor in range(world.cursors)]
            self.assertIs(is_calm_set(world.rule, world.road, every), False)
        for least in (None, 1, 2, 3):
            self.assertGreater(seen[least], 5, seen)

    def test_two_runs_that_part_late(self):
        """A row of cursors, the same for both shapes, whose last call ends with one of them alone."""
        for many in (1, 2, 5, 64):
            rows = {shape: [((), cursor + 1) for cursor in range(many - 1)] + [((), last)]
                    for shape, last in ((A, None), (B, 0), (AB, 0))}
            rule = Rule(many, rows)
            for road in (full_road([A, B]), Road([A, B], []), full_road([A, AB]), Road([B], [(B, A)])):
                found = surprise(rule, road)
                if many == 1 and road.begin == [B]:
                    self.same([len(row) for row in found], [2, 2])
                else:
                    self.same([len(row) for row in found], [many, many])
                self.same([row[-1][0] for row in found], [A, road.shapes[-1]])
                self.assertIsNone(calm_set(rule, road))
            for road in (Road([A], []), full_road([B, AB]), Road([AB], [])):
                self.assertIsNone(surprise(rule, road))
                self.assertIs(is_calm_set(rule, road, calm_set(rule, road)), True)

    def test_runs_that_go_on_with_other_cursors_do_not_look_alike(self):
        rule = Rule(3, {A: [((), 1), ((), None), ((), None)], B: [((), 2), ((), 0), ((), 0)]})
        self.same(surprise(rule, Road([A, B], [])), None)
        rows = [(A, A, 0), (A, A, 1), (A, B, 0), (B, A, 0), (B, B, 0), (B, B, 2)]
        self.assertLessEqual(set(rows), set(calm_set(rule, Road([A, B], []))))
        self.assertIs(is_calm_set(rule, Road([A, B], []), rows), True)
        self.same(surprise(rule, Road([A, B], [(A, B)])), ([(A, False), (A, False)], [(A, False), (B, False)]))
        self.same(surprise(rule, Road([A, B], [(B, A)])), ([(B, False), (A, False)], [(B, False), (B, False)]))

    def test_ends_that_are_not_surprising(self):
        rule = Rule(1, {shape: [((), None)] for shape in (A, B, C)})
        self.same(calm_set(rule, full_road([A, B, C])),
                  [(shape, other, 0) for shape in (A, B, C) for other in (A, B, C)])
        ring = Rule(2, {shape: [((), 1), ((), 0)] for shape in (A, B)})
        self.same(calm_set(ring, ROAD), [(shape, other, cursor) for shape in (A, B) for other in (A, B)
                                         for cursor in (0, 1)])

    def test_near_a_calm_set(self):
        seen = {True: 0, False: 0}
        source = random.Random(224)
        for world in calm_worlds(225, 120):
            rows = calm_set(world.rule, world.road)
            every = [(shape, other, cursor) for shape in world.shapes for other in world.shapes
                     for cursor in range(world.cursors)]
            starts = [every] if rows is None else [rows, every, sorted(rows, key=lambda _: source.random())]
            for start in starts:
                things = [start[:at] + start[at + 1:] for at in range(len(start))]
                things += [start[:at] + start[at:at + 1] + start[at:] for at in range(0, len(start), 3)]
                things += [start + [twins] for twins in every[:8]]
                things += [[start[0][:2] + (world.cursors,)] + start, start + [(C + (3,), C, 0)], start + [(C, (5,), 0)]]
                for thing in [start, *things]:
                    wanted = is_calm_of(world, thing)
                    seen[wanted] += 1
                    self.assertIs(is_calm_set(world.rule, world.road, thing), wanted, thing)
        self.assertGreater(min(seen.values()), 200)

    def test_things_that_are_no_calm_sets(self):
        rule = Rule(2, {A: [((), 1), ((), 0)], B: [((), 1), ((), 0)], C: [((), 0), ((), 0)]})
        rows = [(shape, other, cursor) for shape in (A, B) for other in (A, B) for cursor in (0, 1)]
        self.assertIs(is_calm_set(rule, ROAD, rows), True)
        for thing in ODD + [tuple(rows), [rows], {twins: True for twins in rows}, [list(twins) for twins in rows]]:
            self.assertIs(is_calm_set(rule, ROAD, thing), False)
        odd = ODD + [
            (A, B), (A, B, 0, 0), [A, B, 0], (A, B, True), (A, B, False), (A, B, 2), (A, B, -1), (A, B, None), (A, B, "0"),
            ((False,), B, 0), (A, (True,), 0), (C, A, 0), (A, C, 0), (C, C, 0), ([0], B, 0), (A, [1], 0), (0, 1, 0),
            (AB, A, 0), ((), A, 0), (A, (6,), 0), (A, None, 0), ((A,), (B,), 0), ((A, B), 0), (A, B, (0,))]
        for part in odd:
            self.assertIs(is_calm_set(rule, ROAD, [*rows, part]), False, part)
            for at in (0, 3, 7):
                self.assertIs(is_calm_set(rule, ROAD, [*rows[:at], part, *rows[at + 1:]]), False, part)

    def test_a_calm_set_with_more_than_is_met(self):
        rule = Rule(3, {A: [((), 0), ((), 2), ((), None)], B: [((), 1), ((), 2), ((), None)]})
        road = Road([A], [(B, A)])
        self.assertIs(is_calm_set(rule, road, calm_set(rule, road)), True)
        for rows, wanted in [
                ([(A, A, 0)], True), ([(A, A, 2), (A, A, 0)], True), ([(A, A, 0), (B, B, 0)], False),
                ([(A, A, 0), (A, B, 0)], True), ([(A, A, 0), (B, B, 1)], False),
                ([(A, A, 0), (A, B, 1), (A, A, 2), (A, B, 2)], True), ([(A, A, 0), (A, B, 1), (A, B, 2)], False),
                ([(A, A, 0), (B, A, 1), (A, A, 2), (A, B, 2)], False), ([], False), ([(A, A, 1)], False),
                ([(A, A, 0), (B, B, 0), (A, A, 1)], False), ([(A, A, 0), (A, A, 0)], False)]:
            self.assertIs(is_calm_set(rule, road, rows), wanted, rows)

    def test_errors(self):
        for function, rest in [(surprise, []), (calm_set, []), (is_calm_set, [[]]), (is_calm_set, [None])]:
            for road in (Road([A, C], []), Road([A], [(A, C)]), full_road([AB])):
                self.raises(Mismatch, function, RULE, road, *rest)

    def test_greatest_rules_and_roads(self):
        source, shapes = random.Random(226), [A, B, AB, BA, C, (5, 4)]
        calls = some_calls(source, 64, shapes, 0.0, 0.5)
        for step in (1, 2, 7):
            calm = {shape: [(row[cursor][0], (cursor + step) % 64) for cursor in range(64)]
                    for shape, row in calls.items()}
            rule, road = Rule(64, calm), full_road(shapes)
            self.same(surprise(rule, road), None)
            rows = calm_set(rule, road)
            self.assertGreaterEqual(len(rows), 36 * 64 // (2 if step == 2 else 1))
            self.assertIs(is_calm_set(rule, road, rows), True)
            self.assertIs(is_calm_set(rule, road, rows[1:]), False)
            later = rule.with_call(C, 62, ((), None))
            found = surprise(later, road)
            self.assertEqual(len(found[0]), [cursor * step % 64 for cursor in range(64)].index(62) + 1)
            self.assertIs(is_calm_set(later, road, rows), False)

    def test_in_turns(self):
        worlds = calm_worlds(227, 12)
        fresh = [[surprise(Rule(world.cursors, world.calls), Road(world.begin, world.changes)),
                  calm_set(Rule(world.cursors, world.calls), Road(world.begin, world.changes))] for world in worlds]
        order = list(range(len(worlds))) * 3
        random.Random(228).shuffle(order)
        for at in order:
            self.same([surprise(worlds[at].rule, worlds[at].road), calm_set(worlds[at].rule, worlds[at].road)],
                      fresh[at])
