"""Promises 2, 9, 33 and 34: desks."""

import random

from seencursors.desks import Desk
from seencursors.errors import (
    DuplicateName, InvalidHash, InvalidName, InvalidNumber, InvalidWidth, Moving, NothingToUndo, Over, UnknownLabel,
    UnknownName, UnknownShape)
from seencursors.rules import Rule

from helpers import LARGE, NO_HASHES, NO_INTEGERS, ODD, Case, places_of
from slow import LABELS, NAMES, NO_NAMES, SlowDesk, desk_call, desk_rule

A, B, AB, BA, C = (0,), (1,), (0, 1), (1, 0), (2,)
CALLS = {A: [(((0, 0),), None), ((), None)], B: [(((0, 0),), 1), (((0, 1),), None)],
         BA: [(((0, 0), (1, 0)), 1), (((0, 1), (1, 0)), None)]}
RULE = Rule(2, CALLS)
NO_WIDTHS = NO_INTEGERS + LARGE + [-1, 6]


def ring_rule(*shapes):
    """A rule by which listings list everything, again and again."""
    return Rule(1, {shape: [(tuple(places_of(shape)), 0)] for shape in shapes})


class DesksTest(Case):

    def beside(self, desk, slow):
        """All that a desk tells, beside what the test keeps by itself."""
        table = slow.table
        self.same([desk.shape, desk.names, desk.moved, len(desk)],
                  [table.shape, sorted(table.keys), table.moved, len(slow.history)])
        for label in LABELS:
            if label not in slow.listings:
                self.raises(UnknownLabel, desk.told, label)
                continue
            listing = slow.listings[label]
            told, stayed = listing["told"], listing["stayed"]
            self.same(desk.told(label), {name: told[name] for name in sorted(told)})
            self.same(desk.stayed(label), sorted(stayed))
            self.same(desk.is_over(label), listing["cursor"] is None)
            for name in NAMES:
                if name in stayed:
                    self.same(desk.run_of(label, name), stayed[name])
                else:
                    self.raises(UnknownName, desk.run_of, label, name)

    def both(self, desk, slow, kind, given):
        got, wanted = getattr(desk, kind)(*given), getattr(slow, kind)(*given)
        self.same(got, wanted)

    def test_examples(self):
        desk = Desk(RULE, 1)
        self.same([desk.put('a', 2), desk.put('b', 5), desk.enter('one'), desk.step('one'), desk.start(0),
                   desk.step('one'), desk.is_over('one')], [None, None, None, ['a'], None, ['b'], True])
        self.same([desk.told('one'), desk.run_of('one', 'b'), len(desk)],
                  [{'a': 1, 'b': 1}, [(B, False), (BA, False)], 6])

    def test_named(self):
        desk = Desk(width=1, rule=RULE)
        self.same([desk.put(code=2, name="a"), desk.put(name="b", code=5), desk.drop(name="b"), desk.enter(label="one"),
                   desk.start(width=0), desk.move(count=1), desk.step(label="one")], [None] * 6 + [["a"]])
        self.same([desk.told(label="one"), desk.stayed(label="one"), desk.run_of(name="a", label="one"),
                   desk.is_over(label="one")], [{"a": 1}, ["a"], [(BA, True)], False])

    def test_histories_beside_a_slow_desk(self):
        counted = {}
        for seed in range(60):
            source, rule = random.Random(seed), desk_rule(seed, tells=(0.3, 0.6, 0.9)[seed % 3], lacking=0.2 * (seed % 2))
            width = source.choice([0, 1, 2])
            desk, slow = Desk(rule, width), SlowDesk(rule.calls, width)
            for _ in range(50):
                if slow.history and source.random() < 0.2:
                    kind, given = "undo", ()
                else:
                    kind, given = desk_call(source, slow)
                counted[kind] = counted.get(kind, 0) + 1
                self.both(desk, slow, kind, given)
                self.beside(desk, slow)
            while slow.history:
                self.both(desk, slow, "undo", ())
                self.beside(desk, slow)
            self.raises(NothingToUndo, desk.undo)
        self.assertEqual(sorted(counted), ["drop", "enter", "move", "put", "start", "step", "undo"])
        self.assertGreater(min(counted.values()), 60, counted)

    def test_undo_and_go_on_another_way(self):
        """Keys and listings that come behind an undo are not mixed up with those that were taken back."""
        for seed in range(40):
            source, rule = random.Random(seed), desk_rule(seed, tells=0.5)
            desk, slow = Desk(rule, 1), SlowDesk(rule.calls, 1)
            for many in (4, 8, 12, 6):
                for _ in range(many):
                    self.both(desk, slow, *desk_call(source, slow))
                for _ in range(source.randint(0, many)):
                    self.both(desk, slow, "undo", ())
                self.beside(desk, slow)

    def test_copies(self):
        for seed in range(15):
            source, rule = random.Random(seed), desk_rule(seed)
            rows = [(Desk(rule, 2), SlowDesk(rule.calls, 2))]
            for _ in range(60):
                desk, slow = source.choice(rows)
                if slow.history and source.random() < 0.2:
                    self.both(desk, slow, "undo", ())
                else:
                    self.both(desk, slow, *desk_call(source, slow))
                if source.random() < 0.1:
                    rows.append((desk.copy(), slow.copied()))
                    self.assertIsInstance(rows[-1][0], Desk)
            for desk, slow in rows:
                self.beside(desk, slow)
            # What is undone with one of them is not with the others.
            for desk, slow in rows[::2]:
                while slow.history:
                    self.both(desk, slow, "undo", ())
                    self.beside(desk, slow)
            for desk, slow in rows[1::2]:
                self.beside(desk, slow)

    def test_labels_and_names_that_are_equal(self):
        desk = Desk(RULE, 1)
        desk.put("one", 2)
        desk.enter("one")
        desk.put("two", 4)
        desk.enter("two")
        self.same([desk.step("one"), desk.step("two")], [["one", "two"]] * 2)
        self.same([desk.stayed("one"), desk.stayed("two"), desk.told("one")],
                  [["one"], ["one", "two"], {"one": 1, "two": 1}])
        self.raises(DuplicateName, desk.put, "one", 5)
        self.raises(DuplicateName, desk.enter, "one")
        desk.drop("one")
        self.same([desk.stayed("one"), desk.stayed("two"), desk.told("two")], [[], ["two"], {"one": 1, "two": 1}])

    def test_keys_dropped_and_put_again(self):
        desk = Desk(ring_rule(B), 1)
        desk.put("a", 1)
        desk.enter("one")
        self.same([desk.step("one"), desk.drop("a"), desk.step("one"), desk.put("a", 2), desk.step("one")],
                  [["a"], None, [], None, ["a"]])
        self.same([desk.told("one"), desk.stayed("one"), desk.names], [{"a": 2}, [], ["a"]])
        self.raises(UnknownName, desk.run_of, "one", "a")
        desk.enter("two")
        self.same([desk.stayed("two"), desk.run_of("two", "a")], [["a"], []])
        desk.drop("a")
        desk.undo()
        self.same([desk.stayed("two"), desk.stayed("one")], [["a"], []])
        for _ in range(4):
            desk.undo()
        self.same([desk.names, desk.told("one"), desk.stayed("one")], [[], {"a": 1}, []])
        desk.undo()
        self.same([desk.stayed("one"), desk.run_of("one", "a")], [["a"], [(B, False)]])

    def test_names_told_more_than_once(self):
        desk = Desk(ring_rule(B, C, (1, 2)), 1)
        for name, code in (("b", 1), ("a", 31)):
            desk.put(name, code)
        desk.enter("one")
        for many in (1, 2, 3):
            self.same([desk.step("one"), desk.told("one")], [["a", "b"], {"a": many, "b": many}])
        self.same(list(desk.told("one")), ["a", "b"])
        desk.put("c", 5)
        desk.start(2)
        desk.step("one")
        self.same(desk.told("one"), {"a": 4, "b": 4, "c": 1})
        desk.undo()
        self.same(desk.told("one"), {"a": 3, "b": 3})

    def test_listings_that_have_ended(self):
        desk = Desk(RULE, 0)
        self.same([desk.put("a", 2), desk.enter("one"), desk.step("one"), desk.is_over("one")], [None, None, ["a"], True])
        for _ in range(2):
            self.raises(Over, desk.step, "one")
        self.raises(DuplicateName, desk.enter, "one")
        desk.put("b", 3)
        self.same([desk.stayed("one"), desk.told("one"), desk.run_of("one", "a"), len(desk)],
                  [["a"], {"a": 1}, [(A, False)], 4])
        desk.drop("a")
        self.same([desk.stayed("one"), desk.told("one")], [[], {"a": 1}])
        self.raises(UnknownName, desk.run_of, "one", "a")
        for _ in range(3):
            desk.undo()
        self.same([desk.is_over("one"), desk.told("one"), desk.run_of("one", "a")], [False, {}, []])
        desk.undo()
        self.raises(UnknownLabel, desk.told, "one")
        desk.enter("one")
        self.same(desk.told("one"), {})

    def test_runs_while_it_moves(self):
        rule = desk_rule(7, tells=1.0, ends=0.0)
        desk = Desk(rule, 1)
        for name, code in (("a", 0), ("b", 1)):
            desk.put(name, code)
        desk.start(2)
        desk.put("c", 1)
        desk.enter("one")
        desk.step("one")
        desk.move(1)
        desk.step("one")
        desk.put("d", 1)
        desk.step("one")
        desk.move(1)
        desk.step("one")
        desk.start(0)
        desk.step("one")
        two, back = (1, 2), (2, 0)
        self.same(desk.run_of("one", "a"), [(two, False), (two, True), (two, True), (C, False), (back, False)])
        self.same(desk.run_of("one", "b"), [(two, False), (two, False), (two, False), (C, False), (back, False)])
        self.same(desk.run_of("one", "c"), [(two, True), (two, True), (two, True), (C, False), (back, False)])
        self.raises(UnknownName, desk.run_of, "one", "d")

    def test_start_to_shapes_that_the_rule_lacks(self):
        for shapes, can in [((A, B, AB), [1]), ((A, B), []), ((A, AB), []), ((A, AB, (0, 2), C), [2]), ((A,), []),
                            ((A, B, BA), []), ((A, B, C, AB, (0, 2), (1, 2)), [1, 2])]:
            desk = Desk(ring_rule(*shapes), 0)
            self.raises(InvalidWidth, desk.start, 0)
            for width in range(1, 6):
                if width not in can:
                    self.raises(UnknownShape, desk.start, width)
                    continue
                self.same([desk.start(width), desk.shape], [None, (0, width)])
                for other in range(6):
                    self.raises(Moving, desk.start, other)
                desk.undo()
            for width in NO_WIDTHS:
                self.raises(InvalidWidth, desk.start, width)
            self.same([desk.shape, len(desk)], [A, 0])

    def test_errors_of_the_constructor_in_their_order(self):
        for width in NO_WIDTHS:
            self.raises(InvalidWidth, Desk, RULE, width)
        for width in range(6):
            if width < 2:
                self.same(Desk(RULE, width).shape, (width,))
            else:
                self.raises(UnknownShape, Desk, RULE, width)
        self.raises(UnknownShape, Desk, ring_rule(AB, BA), 0)

    def test_errors(self):
        desk = Desk(RULE, 1)
        desk.put("a", 3)
        desk.enter("one")
        before = desk.copy()
        for name in NO_NAMES:
            for code in (3, None):
                self.raises(InvalidName, desk.put, name, code)
            self.raises(UnknownName, desk.drop, name)
            self.raises(InvalidName, desk.enter, name)
            for function in (desk.step, desk.told, desk.stayed, desk.is_over):
                self.raises(UnknownLabel, function, name)
            for other in ("a", "b", name):
                self.raises(UnknownLabel, desk.run_of, name, other)
            self.raises(UnknownName, desk.run_of, "one", name)
        for code in NO_HASHES:
            self.raises(InvalidHash, desk.put, "b", code)
            self.raises(DuplicateName, desk.put, "a", code)
        self.raises(UnknownName, desk.drop, "one")
        for function in (desk.step, desk.told, desk.stayed, desk.is_over):
            self.raises(UnknownLabel, function, "a")
        self.raises(UnknownLabel, desk.run_of, "a", "b")
        self.raises(UnknownName, desk.run_of, "one", "one")
        for count in ODD:
            self.raises(InvalidNumber, desk.move, count)
        desk.start(0)
        for count in NO_INTEGERS + LARGE + [-1, 0, 3]:
            self.raises(InvalidNumber, desk.move, count)
        desk.undo()
        self.same([desk.names, desk.shape, len(desk), desk.stayed("one")],
                  [before.names, before.shape, len(before), before.stayed("one")])

    def test_undo_of_each_kind_and_none_behind_a_refused_call(self):
        desk = Desk(RULE, 1)
        self.raises(NothingToUndo, desk.undo)
        rows = [("put", ("a", 2)), ("enter", ("one",)), ("step", ("one",)), ("start", (0,)), ("put", ("b", 3)),
                ("move", (1,)), ("drop", ("a",)), ("step", ("one",)), ("move", (1,))]
        seen = []
        for at, (kind, given) in enumerate(rows):
            seen.append([desk.names, desk.shape, desk.moved, len(desk)])
            getattr(desk, kind)(*given)
            for wrong in (lambda: desk.put("b", 32), lambda: desk.put("A", 3), lambda: desk.drop("zz"),
                          lambda: desk.start(9), lambda: desk.move(9), lambda: desk.enter("One"),
                          lambda: desk.step("two")):
                with self.assertRaises(ValueError):
                    wrong()
            self.same(len(desk), at + 1)
        for row in seen[::-1]:
            self.same([desk.undo(), [desk.names, desk.shape, desk.moved, len(desk)]], [None, row])
        self.raises(NothingToUndo, desk.undo)
        self.same(len(desk), 0)

    def test_lists_and_dicts_are_new(self):
        desk = Desk(ring_rule(B, C, (1, 2)), 1)
        for name, code in (("b", 1), ("a", 2)):
            desk.put(name, code)
        desk.enter("one")
        got = desk.step("one")
        got.clear()
        run = [(B, False)]
        for ask, wanted in [(lambda: desk.names, ["a", "b"]), (lambda: desk.told("one"), {"a": 1, "b": 1}),
                            (lambda: desk.stayed("one"), ["a", "b"]), (lambda: desk.run_of("one", "a"), run)]:
            got = ask()
            self.same(got, wanted)
            got.clear()
            self.same(ask(), wanted)
        desk.undo()
        self.same([desk.told("one"), desk.step("one")], [{}, ["a", "b"]])
        self.assertEqual(desk.rule, ring_rule(B, C, (1, 2)))

    def test_long_histories(self):
        source, rule = random.Random(9), Rule(64, {shape: [
            (((0, at % 2 ** shape[0]),), (at + 1) % 64) for at in range(64)] for shape in [(5,), (4,), (5, 4), (4, 5)]})
        desk, slow = Desk(rule, 5), SlowDesk(rule.calls, 5)
        letters = "abcdefghijklmnopqrstuvwxyz"
        names = [one + two for one in letters[:12] for two in letters]
        for label in LABELS[:2]:
            self.both(desk, slow, "enter", (label,))
        slow.keep = lambda: slow.history.append(None)
        for at, name in enumerate(names):
            self.both(desk, slow, "put", (name, at * 11 % 32))
        self.both(desk, slow, "enter", ("a",))
        for at in range(200):
            self.both(desk, slow, "step", (source.choice(LABELS),))
            if slow.table.left():
                self.both(desk, slow, "move", (1,))
            elif at % 10 == 0:
                self.both(desk, slow, "start", (9 - slow.table.shape[0],))
        for label in LABELS:
            told = slow.listings[label]["told"]
            self.same(desk.told(label), {name: told[name] for name in sorted(told)})
            self.same(desk.stayed(label), sorted(slow.listings[label]["stayed"]))
        for name in names[::40]:
            self.same(desk.run_of("a", name), slow.listings["a"]["stayed"][name])
        while len(desk):
            desk.undo()
        self.same([desk.names, desk.shape, desk.moved], [[], (5,), 0])
