"""Promises 2, 5 and 12: rules."""

import copy

from seencursors.errors import InvalidCall, InvalidRule, UnknownCursor, UnknownShape
from seencursors.rules import Rule

from helpers import LARGE, NO_INTEGERS, ODD, SHAPES, TWELVE, Case, places_of

CALLS = {(1,): [(((0, 0),), 1), (((0, 1),), None)], (0,): [(((0, 0),), None), ((), None)]}
WIDE = {(1, 0): [((), 0), (((0, 0), (0, 1), (1, 0)), 1)]}


class RulesTest(Case):

    def test_examples(self):
        rule = Rule(2, {(1,): [(((0, 0),), 1), (((0, 1),), None)], (0,): [(((0, 0),), None), ((), None)]})
        self.same(
            [rule.cursors, rule.shapes, rule.call((1,), 0), rule.with_call((0,), 1, (((0, 0),), None)).call((0,), 1)],
            [2, [(0,), (1,)], (((0, 0),), 1), (((0, 0),), None)])
        self.raises(InvalidRule, Rule, 1, {(0,): [(((0, 1),), None)]})

    def test_named(self):
        rule = Rule(calls=CALLS, cursors=2)
        self.assertEqual(rule.call(cursor=1, shape=(1,)), (((0, 1),), None))
        self.assertEqual(rule.with_call(call=((), 0), cursor=1, shape=(1,)).call((1,), 1), ((), 0))

    def test_dicts_are_ascending(self):
        for calls in (CALLS, dict(reversed(CALLS.items()))):
            self.same(Rule(2, calls).calls, {(0,): CALLS[(0,)], (1,): CALLS[(1,)]})
        many = Rule(1, {shape: [((), None)] for shape in reversed(TWELVE)})
        self.same(many.shapes, sorted(TWELVE))
        self.same(list(many.calls), sorted(TWELVE))
        self.same(list(many.with_call((0,), 0, ((), 0)).calls), sorted(TWELVE))

    def test_each_shape_with_all_and_with_no_places(self):
        for shape in SHAPES:
            row = [(tuple(places_of(shape)), 1), ((), 0)]
            rule = Rule(2, {shape: row})
            self.same(rule.calls, {shape: row})
            self.same(rule.shapes, [shape])

    def test_numbers_of_cursors(self):
        for many in (1, 2, 63, 64):
            row = [((), at) for at in range(many)]
            rule = Rule(many, {(0,): row})
            self.same(rule.cursors, many)
            self.same([rule.call((0,), at) for at in range(many)], row)
            for other in (0, many - 1, many + 1, 65, -1):
                if other != many:
                    self.raises(InvalidRule, Rule, other, {(0,): row})
        for many in (0, 65, 10 ** 20):
            self.raises(InvalidRule, Rule, many, {(0,): [((), None)] * min(many, 65)})

    def test_any_objects(self):
        for thing in ODD:
            self.raises(InvalidRule, Rule, 2, thing)
            self.raises(InvalidRule, Rule, thing, None)
            self.raises(InvalidRule, Rule, 1, {(0,): thing})
            self.raises(InvalidRule, Rule, 1, {(0,): [thing]})
            if thing is not None and thing != 0 or isinstance(thing, bool):
                self.raises(InvalidRule, Rule, 1, {(0,): [((), thing)]})
            if thing != ():
                self.raises(InvalidRule, Rule, 1, {(0,): [(thing, None)]})
            self.raises(InvalidRule, Rule, 1, {(0,): [((thing,), None)]})
        for thing in NO_INTEGERS + LARGE:
            self.raises(InvalidRule, Rule, thing, {(0,): [((), None)]})

    def test_wrong_shapes(self):
        row = [((), None)]
        for key in ["0", 0, (), (6,), (-1,), (1, 1), (0, 1, 2), (True,), (False,), (True, 0), ((0,),), ("0",)]:
            self.raises(InvalidRule, Rule, 1, {key: row})
            self.raises(InvalidRule, Rule, 1, {(0, 2): row, key: row})
        self.raises(InvalidRule, Rule, 1, {})

    def test_wrong_calls(self):
        for call in self.wrong_calls():
            self.raises(InvalidRule, Rule, 2, {(1, 0): [((), None), call]})
            self.raises(InvalidRule, Rule, 2, {(0,): [((), 0)] * 2, (1, 0): [call, ((), None)]})
        for row in [
                (), (((), None), ((), None)), [((), None)], [((), None)] * 3, {0: ((), None), 1: ((), None)}, None,
                "ab", [None, None], [((), None), []]]:
            self.raises(InvalidRule, Rule, 2, {(1,): row})

    def wrong_calls(self):
        """Things that are no calls with the shape (1, 0) and two cursors."""
        return [
            ((), 2), ((), -1), ((), True), ((), False), ((), "0"), ((), (0,)), ((), [None]), ((),), ((), 0, 0),
            [(), 0], [(), None], ([], 0), (None, 0), ("", 0), (0, 0), ({}, None), None, (), "", 0, {}, {(): 0},
            (((0, 1), (0, 0)), None), (((1, 0), (0, 0)), None), (((0, 0), (0, 0)), None),
            (((0, 0), (0, 1), (0, 1)), 0), (((0, 2),), 0), (((1, 1),), 0), (((2, 0),), 0), (((0, -1),), 0),
            (((-1, 0),), 0), (((0,),), 0), (((0, 0, 0),), 0), (([0, 0],), 0), ([(0, 0)], 0), (((0, True),), 0),
            (((False, 0),), 0), (((True, 0),), 0), (((0, None),), None), (("0.0",), None), ((0, 0), None),
            ((((0, 0),),), None), (((0, 0), None), None), (((0, 0), (0, "1")), None), (((0, 0), []), None),
            ((), 10 ** 39), (((0, 10 ** 39),), 0)]

    def test_objects_copy_their_arguments(self):
        calls = {(1,): [(((0, 0),), 1), (((0, 1),), None)], (0,): [(((0, 0),), None), ((), None)]}
        before = copy.deepcopy(calls)
        rule = Rule(2, calls)
        self.same(calls, before)
        calls[(0,)][1] = (((0, 0),), 0)
        calls[(1,)].clear()
        calls[(2,)] = []
        self.assertEqual(rule, Rule(2, before))
        self.assertEqual(rule.calls, before)
        self.assertEqual(rule.call((0,), 1), ((), None))

    def test_what_is_returned_is_new(self):
        row = [((), None)]
        rule = Rule(1, {(0,): row, (1,): row})
        found = rule.calls
        self.assertIsNot(found, rule.calls)
        self.assertIsNot(found[(0,)], found[(1,)])
        self.assertIsNot(found[(0,)], rule.calls[(0,)])
        found[(0,)].append(None)
        found[(1,)][0] = None
        found[(2,)] = None
        rule.shapes.append((3,))
        self.same(rule.calls, {(0,): [((), None)], (1,): [((), None)]})
        self.same(rule.shapes, [(0,), (1,)])
        self.same(rule.call((1,), 0), ((), None))

    def test_call(self):
        rule = Rule(2, {**CALLS, **WIDE})
        for shape, row in {**CALLS, **WIDE}.items():
            self.same([rule.call(shape, 0), rule.call(shape, 1)], row)

    def test_with_call(self):
        rule = Rule(2, {**CALLS, **WIDE})
        other = rule.with_call((1, 0), 0, (((0, 1), (1, 0)), None))
        self.same(rule.calls[(1, 0)], WIDE[(1, 0)])
        self.same(other.calls[(1, 0)], [(((0, 1), (1, 0)), None), WIDE[(1, 0)][1]])
        self.same({**other.calls, **WIDE}, {**rule.calls})
        self.same(other.cursors, 2)
        self.assertEqual(rule, Rule(2, {**CALLS, **WIDE}))
        again = rule.with_call((1, 0), 0, ((), 0))
        self.assertEqual(again, rule)
        self.assertIsNot(again, rule)

    def test_errors_of_call_in_their_order(self):
        rule = Rule(2, {**CALLS, **WIDE})
        before = rule.calls
        wrong_shapes = [thing for thing in ODD if thing != (0,)] + [(2,), (0, 1), (True,), (False,), (1, False), [1]]
        for thing in wrong_shapes:
            self.raises(UnknownShape, rule.call, thing, 0)
            self.raises(UnknownShape, rule.call, thing, None)
            self.raises(UnknownShape, rule.with_call, thing, 0, ((), None))
            self.raises(UnknownShape, rule.with_call, thing, 9, None)
        for thing in NO_INTEGERS + LARGE + [-1, 2, 64]:
            self.raises(UnknownCursor, rule.call, (1,), thing)
            self.raises(UnknownCursor, rule.with_call, (1,), thing, ((), None))
            self.raises(UnknownCursor, rule.with_call, (1,), thing, None)
        for thing in self.wrong_calls() + ODD:
            self.raises(InvalidCall, rule.with_call, (1, 0), 1, thing)
        self.raises(InvalidCall, rule.with_call, (0,), 1, (((0, 1),), None))
        self.raises(InvalidCall, rule.with_call, (1,), 1, (((1, 0),), None))
        self.same(rule.calls, before)

    def test_equal(self):
        rule = Rule(2, CALLS)
        self.assertIs(rule == Rule(2, dict(reversed(CALLS.items()))), True)
        self.assertIs(rule == rule, True)
        for other in [
                Rule(2, {**CALLS, **WIDE}), Rule(2, {(1,): CALLS[(1,)]}), rule.with_call((1,), 1, ((), None)),
                rule.with_call((0,), 1, ((), 0)), Rule(1, {(0,): [((), None)]}), Rule(2, WIDE)]:
            self.assertIs(rule == other, False)
            self.assertIs(other == rule, False)
            self.assertIs(rule != other, True)
        for other in ODD + [CALLS, (2, CALLS)]:
            self.assertIs(rule == other, False)

    def test_twelve_shapes_and_64_cursors(self):
        calls = {shape: [(tuple(places_of(shape)[:at]), (at * 5 + 1) % 64) for at in range(64)] for shape in TWELVE}
        rule = Rule(64, calls)
        self.same(rule.calls, {shape: calls[shape] for shape in sorted(TWELVE)})
        self.same(rule.with_call((5,), 63, ((), None)).call((5,), 63), ((), None))
