"""Promises 2, 9 and 17: smallest rules."""

import itertools
import random

from seencursors.errors import Mismatch
from seencursors.rules import Rule
from seencursors.smallest import apart, pairs, smallest

from helpers import TWELVE, Case, places_of
from model import some_calls, some_worlds

A, B, AB = (0,), (1,), (0, 1)
ONE = Rule(1, {A: [(((0, 0),), 0)]})
TWO = Rule(2, {A: [(((0, 0),), 1), (((0, 0),), 0)]})


def along(rule, row):
    """What a rule lists along a row of shapes: (places, ends) for each call, and the cursors, up to the first end."""
    told, cursors, cursor = [], [], 0
    for shape in row:
        if cursor is None:
            break
        cursors.append(cursor)
        listing, cursor = rule.calls[shape][cursor]
        told.append((listing, cursor is None))
    return told, cursors


def rows_of(rule, most):
    """All rows of shapes of a rule, shorter ones first, then in ascending order."""
    for length in range(1, most + 1):
        for row in itertools.product(rule.shapes, repeat=length):
            yield list(row)


def first_apart(rule, other, most):
    """The first row of at most so many shapes along which two rules tell something else."""
    for row in rows_of(rule, most):
        if along(rule, row)[0] != along(other, row)[0]:
            return row
    return None


def met_pairs(rule, other, most):
    """All pairs of cursors with which two rules that do the same make calls together, along rows of so many shapes."""
    found = set()
    for row in rows_of(rule, most):
        found |= set(zip(along(rule, row)[1], along(other, row)[1]))
    return sorted(found)


def with_cursors(rule, order, many):
    """A rule that does the same, each old cursor under all new numbers of order, which begins with that of 0."""
    source = random.Random(many)
    calls = {shape: [((), 0)] * many for shape in rule.shapes}
    for shape, row in rule.calls.items():
        for old, news in enumerate(order):
            for new in news:
                later = row[old][1]
                calls[shape][new] = (row[old][0], None if later is None else source.choice(order[later]))
    return Rule(many, calls)


def doubled(rule):
    """A rule that does the same with twice as many cursors."""
    many = rule.cursors
    return with_cursors(rule, [[at, at + many] for at in range(many)], 2 * many)


def turned(rule):
    """A rule that does the same with its cursors in another order, but 0."""
    many = rule.cursors
    return with_cursors(rule, [[0]] + [[many - at] for at in range(1, many)], many)


def begun_with(rule, cursor):
    """A rule whose cursor 0 does what another one of a rule does: 0 and that one are exchanged."""
    names = {at: at for at in range(rule.cursors)} | {0: cursor, cursor: 0, None: None}
    return Rule(rule.cursors, {
        shape: [(row[names[at]][0], names[row[names[at]][1]]) for at in range(rule.cursors)]
        for shape, row in rule.calls.items()})


class SmallestTest(Case):

    def test_examples(self):
        other = TWO.with_call(A, 1, (((0, 0),), None))
        self.same([smallest(TWO) == ONE, pairs(ONE, TWO), apart(ONE, other)], [True, [(0, 0), (0, 1)], [A, A]])

    def test_named(self):
        self.same(apart(other=TWO, rule=ONE), None)
        self.same(pairs(other=ONE, rule=TWO), [(0, 0), (1, 0)])
        self.assertEqual(smallest(rule=TWO), ONE)

    def test_a_rule_beside_itself(self):
        for world in some_worlds(31, 40):
            self.keeps(None, apart, world.rule, world.rule)
            self.keeps(met_pairs(world.rule, world.rule, 3), pairs, world.rule, world.rule)
        self.keeps([(0, 0)], pairs, ONE, ONE)
        self.keeps([(0, 0), (1, 1)], pairs, TWO, TWO)

    def test_another_call(self):
        source, seen = random.Random(32), {True: 0, False: 0}
        for world in some_worlds(32, 120, widths=(0, 1)):
            shape, cursor = source.choice(world.rule.shapes), source.randrange(world.cursors)
            other = world.rule.with_call(shape, cursor, some_calls(source, world.cursors, [shape])[shape][0])
            # Of two rules with n and m cursors that are apart a row of at most n * m shapes tells it.
            row = first_apart(world.rule, other, 6)
            self.keeps(row, apart, world.rule, other)
            self.keeps(row, apart, other, world.rule)
            seen[row is None] += 1
            self.keeps(met_pairs(world.rule, other, 6) if row is None else None, pairs, world.rule, other)
        self.assertGreater(min(seen.values()), 25)

    def test_other_rules_of_the_same_shapes(self):
        worlds = some_worlds(33, 150, widths=(0, 1), most_shapes=2, most_cursors=2)
        for world, beside in itertools.product(worlds[:40], worlds):
            if world.rule.shapes == beside.rule.shapes:
                row = first_apart(world.rule, beside.rule, 4)
                self.same(apart(world.rule, beside.rule), row)
                self.same(pairs(world.rule, beside.rule) is None, row is not None)

    def test_other_order_and_twice(self):
        for world in some_worlds(34, 80):
            for other in (turned(world.rule), doubled(world.rule), doubled(turned(world.rule))):
                self.keeps(None, apart, world.rule, other)
                self.keeps(None, apart, other, world.rule)
                self.keeps(met_pairs(world.rule, other, 5), pairs, world.rule, other)
                self.assertEqual(smallest(other), smallest(world.rule))

    def test_first_of_several_shortest_rows(self):
        rule = Rule(2, {A: [((), 1), ((), 0)], AB: [((), 1), ((), 0)], B: [((), 1), ((), 0)]})
        for shapes in ([A, B], [AB, B], [B], [A, AB, B]):
            other = rule
            for shape in shapes:
                other = other.with_call(shape, 1, ((), None))
            self.keeps([A, shapes[0]], apart, rule, other)
            other = rule
            for shape in shapes:
                other = other.with_call(shape, 0, (((0, 0),), 1))
            self.keeps([shapes[0]], apart, rule, other)
        other = Rule(3, {A: [((), 1), ((), 0), ((), 0)], AB: [((), 2), ((), 0), (((0, 0),), 0)],
                         B: [((), 2), ((), 0), ((), None)]})
        self.keeps([AB, AB], apart, rule, other)
        self.keeps([AB, B], apart, rule, other.with_call(AB, 2, ((), 0)))
        self.keeps([AB, AB], apart, rule, other.with_call(B, 0, ((), 1)))
        self.keeps([B, AB], apart, rule, other.with_call(AB, 0, ((), 1)))

    def test_an_end_beside_another_cursor(self):
        self.keeps([A], apart, ONE, Rule(1, {A: [(((0, 0),), None)]}))
        self.keeps([A], apart, Rule(1, {A: [(((0, 0),), None)]}), ONE)
        self.keeps(None, apart, Rule(1, {A: [((), None)]}), Rule(2, {A: [((), None), (((0, 0),), 1)]}))
        self.keeps([(0, 0)], pairs, Rule(1, {A: [((), None)]}), Rule(2, {A: [((), None), (((0, 0),), 1)]}))

    def test_other_shapes(self):
        both = Rule(1, {A: [((), 0)], B: [((), 0)]})
        for rule, other in itertools.permutations([ONE, both, Rule(1, {B: [((), 0)]}), Rule(1, {AB: [((), 0)]}),
                                                   Rule(1, {A: [((), 0)], AB: [((), 0)]})], 2):
            self.raises(Mismatch, apart, rule, other)
            self.raises(Mismatch, pairs, rule, other)

    def test_smallest_does_the_same_and_no_two_of_its_cursors_do(self):
        fewer = 0
        for world in some_worlds(35, 150, widths=(0, 1)):
            least = smallest(world.rule)
            fewer += least.cursors < world.cursors
            self.assertIsNone(first_apart(world.rule, least, 5))
            self.same(least.shapes, world.rule.shapes)
            met = met_pairs(least, least, 4)
            self.same(met, [(at, at) for at in range(least.cursors)])
            for one, two in itertools.combinations(range(least.cursors), 2):
                self.assertIsNotNone(first_apart(begun_with(least, one), begun_with(least, two), 5))
            self.assertEqual(smallest(least), least)
            self.check_order(least)
        self.assertGreater(fewer, 25)

    def check_order(self, rule):
        """The cursors are met in ascending order, if one goes through them and for each through the shapes."""
        met = [0]
        for cursor in range(rule.cursors):
            self.assertLess(cursor, len(met))
            for shape in rule.shapes:
                later = rule.call(shape, cursor)[1]
                if later is not None and later not in met:
                    self.assertEqual(later, len(met))
                    met.append(later)
        self.assertEqual(len(met), rule.cursors)

    def test_numbers_of_the_smallest_rule(self):
        rule = Rule(4, {
            A: [((), 3), (((0, 0),), None), (((0, 0),), 0), ((), 2)],
            B: [((), 1), ((), None), ((), 3), (((0, 1),), 1)]})
        self.same(smallest(rule).calls, {
            A: [((), 1), ((), 3), (((0, 0),), None), (((0, 0),), 0)],
            B: [((), 2), (((0, 1),), 2), ((), None), ((), 1)]})
        self.keeps([(0, 0), (1, 2), (2, 3), (3, 1)], pairs, rule, smallest(rule))

    def test_cursors_that_no_listing_comes_to(self):
        rule = Rule(4, {A: [((), 2), ((), 3), ((), None), (((0, 0),), 1)]})
        self.same([smallest(rule).cursors, smallest(rule).calls], [2, {A: [((), 1), ((), None)]}])
        self.keeps([(0, 0), (2, 1)], pairs, rule, smallest(rule))
        self.keeps([(0, 0), (2, 2)], pairs, rule, rule.with_call(A, 3, ((), None)))
        self.same(smallest(Rule(3, {A: [((), None), ((), 1), ((), 0)]})).calls, {A: [((), None)]})

    def test_one_and_64_cursors(self):
        same = Rule(64, {shape: [(tuple(places_of(shape)), (at * 5 + 1) % 64) for at in range(64)] for shape in TWELVE})
        one = Rule(1, {shape: [(tuple(places_of(shape)), 0)] for shape in TWELVE})
        self.assertEqual(smallest(same), one)
        self.assertEqual(smallest(one), one)
        self.keeps(None, apart, same, one)
        self.keeps([(at, 0) for at in range(64)], pairs, same, one)
        long = Rule(64, {shape: [((), at + 1 if at < 63 else None) for at in range(64)] for shape in TWELVE})
        self.assertEqual(smallest(long), long)
        self.assertEqual(smallest(turned(long)), long)
        self.keeps([(at, at) for at in range(64)], pairs, long, long)
        self.keeps([min(TWELVE)] * 63 + [(5, 4)], apart, long, long.with_call((5, 4), 63, ((), 63)))

    def test_many_pairs_of_cursors(self):
        rings = [Rule(many, {shape: [((), (at + 1) % many) for at in range(many)] for shape in TWELVE})
                 for many in (63, 64)]
        self.same(pairs(*rings), sorted(itertools.product(range(63), range(64))))
        self.assertEqual(smallest(rings[1]).cursors, 1)
        other = rings[1].with_call((5, 4), 63, ((), None))
        self.same(apart(rings[0], other), [min(TWELVE)] * 63 + [(5, 4)])
        self.assertEqual(smallest(other), other)

    def test_64_cursors_at_random(self):
        source = random.Random(36)
        rule = Rule(64, some_calls(source, 64, TWELVE, 0.05, 0.2))
        self.keeps(None, apart, rule, turned(rule))
        self.assertEqual(smallest(rule), smallest(turned(rule)))
        least = smallest(rule)
        self.check_order(least)
        self.keeps(None, apart, rule, least)
        self.keeps(sorted(pairs(rule, least)), pairs, rule, least)
