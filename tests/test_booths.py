"""Promises 2, 9 and 35: booths."""

import random

from seencursors.booths import Booth
from seencursors.desks import Desk
from seencursors.errors import (
    DuplicateName, Endless, InvalidHash, InvalidName, InvalidNumber, InvalidWidth, Moving, NothingToUndo, Over,
    UnknownLabel, UnknownName, UnknownShape)
from seencursors.roads import full_road
from seencursors.rules import Rule
from seencursors.watches import Watch

from helpers import LARGE, NO_HASHES, NO_INTEGERS, ODD, Case, places_of
from slow import LABELS, NO_NAMES, SlowDesk, agreed_rule, desk_call, desk_rule

A, B, AB, BA, C = (0,), (1,), (0, 1), (1, 0), (2,)
RULE = Rule(2, {A: [(((0, 0),), None), ((), None)], B: [(((0, 0),), 1), (((0, 1),), None)]})
NO_WIDTHS = NO_INTEGERS + LARGE + [-1, 6]


class Beside:
    """A desk, and a watch for each listing, that are called as a booth is."""

    def __init__(self, rule, width):
        self.desk, self.slow = Desk(rule, width), SlowDesk(rule.calls, width)
        self.road = full_road(rule.shapes)

    def watches(self):
        found = {}
        for label, listing in self.slow.listings.items():
            found[label] = Watch(self.desk.rule, self.road)
            for number in listing["trace"]:
                found[label].see(number)
        return found

    def call(self, kind, given):
        getattr(self.slow, kind)(*given)
        return getattr(self.desk, kind)(*given)

    def copied(self):
        other = Beside(self.desk.rule, self.desk.shape[0])
        other.desk, other.slow = self.desk.copy(), self.slow.copied()
        return other


def finish_by_steps(booth, label):
    """What finish would return, by steps of a copy, or None if it goes on for ever."""
    other, found = booth.copy(), []
    while not found or not (other.can_stop(label) or other.is_over(label)):
        if len(found) > booth.rule.cursors * 33:
            return None
        found.append(other.step(label))
    return found


class BoothsTest(Case):

    def beside(self, booth, other):
        desk, watches = other.desk, other.watches()
        self.same([booth.shape, booth.names, len(booth)], [desk.shape, desk.names, len(desk)])
        for label in LABELS:
            if label not in watches:
                for function in (booth.told, booth.stayed, booth.is_over, booth.numbers_of, booth.doubts_of,
                                 booth.surely_told, booth.can_stop):
                    self.raises(UnknownLabel, function, label)
                continue
            watch = watches[label]
            self.same([booth.told(label), booth.stayed(label), booth.is_over(label)],
                      [desk.told(label), desk.stayed(label), desk.is_over(label)])
            self.same([booth.numbers_of(label), booth.doubts_of(label), booth.can_stop(label)],
                      [watch.trace, watch.doubts, watch.is_clear])
            sure = [name for name in desk.stayed(label) if watch.is_sure(other.slow.table.keys[name][0])]
            self.same(booth.surely_told(label), sure)
            self.assertLessEqual(set(sure), set(desk.told(label)))

    def test_examples(self):
        booth = Booth(RULE, 1)
        self.same([booth.put('a', 4), booth.put('b', 7), booth.enter('one'), booth.surely_told('one'), booth.step('one'),
                   booth.surely_told('one'), booth.doubts_of('one')[:2]], [None, None, None, [], ['a'], ['a'], [1, 3]])
        self.same([booth.finish('one'), booth.told('one'), booth.can_stop('one'), booth.numbers_of('one'),
                   booth.surely_told('one'), len(booth)], [[['b']], {'a': 1, 'b': 1}, False, [1, -1], ['a'], 5])

    def test_named(self):
        rule = desk_rule(3, tells=1.0, ends=0.0)
        booth = Booth(width=1, rule=rule)
        self.same([booth.put(code=2, name="a"), booth.put(name="b", code=5), booth.drop(name="b"), booth.enter(label="one"),
                   booth.start(width=0), booth.move(count=1), booth.step(label="one")], [None] * 6 + [["a"]])
        self.same([booth.told(label="one"), booth.stayed(label="one"), booth.is_over(label="one"),
                   booth.surely_told(label="one"), booth.can_stop(label="one"), booth.doubts_of(label="one"),
                   booth.finish(label="one"), len(booth.numbers_of(label="one"))],
                  [{"a": 1}, ["a"], False, ["a"], True, [], [["a"]], 2])
        self.assertEqual(booth.rule, rule)

    def test_histories_beside_a_desk_and_watches(self):
        counted = {}
        for seed in range(40):
            source = random.Random(seed)
            rule = desk_rule(seed, tells=(0.5, 0.8, 0.95)[seed % 3], lacking=0.2 * (seed % 2))
            width = source.choice([0, 1, 2])
            booth, other = Booth(rule, width), Beside(rule, width)
            for _ in range(40):
                if other.slow.history and source.random() < 0.2:
                    kind, given = "undo", ()
                else:
                    kind, given = desk_call(source, other.slow)
                counted[kind] = counted.get(kind, 0) + 1
                self.same(getattr(booth, kind)(*given), other.call(kind, given))
                self.beside(booth, other)
            while other.slow.history:
                self.same(booth.undo(), other.call("undo", ()))
            self.beside(booth, other)
            self.raises(NothingToUndo, booth.undo)
        self.assertEqual(sorted(counted), ["drop", "enter", "move", "put", "start", "step", "undo"])

    def test_finish_beside_steps(self):
        seen = {"endless": 0, "clear": 0, "over": 0, "long": 0}
        for seed in range(150):
            source = random.Random(seed)
            rule = agreed_rule(seed, source.randint(1, 12)) if seed % 3 else desk_rule(
                seed, cursors=source.randint(1, 4), tells=source.choice([0.5, 0.8, 0.95]), ends=source.choice([0.0, 0.1]))
            booth, other = Booth(rule, 1), Beside(rule, 1)
            for _ in range(20):
                kind, given = desk_call(source, other.slow)
                self.same(getattr(booth, kind)(*given), other.call(kind, given))
            for label in other.slow.listings:
                if booth.is_over(label):
                    self.raises(Over, booth.finish, label)
                    self.beside(booth, other)
                    continue
                wanted = finish_by_steps(booth, label)
                if wanted is None:
                    seen["endless"] += 1
                    self.raises(Endless, booth.finish, label)
                    self.beside(booth, other)
                    continue
                before = len(booth)
                self.same(booth.finish(label), wanted)
                self.same(len(booth), before + len(wanted))
                for told in wanted:
                    self.same(other.call("step", (label,)), told)
                self.beside(booth, other)
                self.assertIs(booth.can_stop(label) or booth.is_over(label), True)
                seen["over" if booth.is_over(label) else "clear"] += 1
                seen["long"] += len(wanted) > 3
                # Each of its steps is undone by itself.
                for _ in wanted[source.randint(0, 2):]:
                    self.same(booth.undo(), other.call("undo", ()))
                    self.beside(booth, other)
        self.assertGreater(min(seen.values()), 10, seen)

    def test_at_least_one_step_also_if_nothing_is_in_doubt(self):
        rule = Rule(3, {B: [(tuple(places_of(B)), 1), ((), 2), ((), 0)]})
        booth = Booth(rule, 1)
        booth.put("a", 3)
        booth.enter("one")
        self.same([booth.finish("one"), booth.can_stop("one"), booth.numbers_of("one")], [[["a"]], True, [1]])
        self.same([booth.finish("one"), booth.finish("one"), booth.numbers_of("one")], [[[]], [[]], [1, 2, 0]])
        self.same([booth.finish("one"), len(booth)], [[["a"]], 6])

    def test_listings_that_end_clear_or_go_on_for_ever(self):
        half = ((0, 0),)
        ending = Rule(3, {B: [(half, 1), ((), 2), (half, None)]})
        endless = Rule(3, {B: [(half, 1), ((), 2), (half, 1)]})
        clear = Rule(4, {B: [(half, 1), ((), 2), (((0, 1),), 1), ((), None)]})
        for rule, wanted, last in [(ending, [["a"], [], ["a"]], [1, 2, -1]), (clear, [["a"], [], ["b"]], [1, 2, 1])]:
            booth = Booth(rule, 1)
            booth.put("a", 2)
            booth.put("b", 5)
            booth.enter("one")
            self.same([booth.finish("one"), booth.numbers_of("one"), booth.is_over("one")], [wanted, last, last[-1] == -1])
            if last[-1] == -1:
                self.raises(Over, booth.finish, "one")
                self.raises(Over, booth.step, "one")
        booth = Booth(endless, 1)
        booth.put("a", 2)
        booth.enter("one")
        for numbers in ([], [1], [1, 2], [1, 2, 1], [1, 2, 1, 2]):
            self.same(booth.numbers_of("one"), numbers)
            before = len(booth)
            self.raises(Endless, booth.finish, "one")
            self.same([booth.numbers_of("one"), len(booth)], [numbers, before])
            booth.step("one")

    def test_endless_with_the_table_as_it_is(self):
        """With one shape the listing goes round, with the other one it ends."""
        rule = Rule(2, {A: [((), None), ((), None)], B: [(((0, 0),), 1), (((0, 0),), 0)], BA: [((), 1), ((), 0)]})
        booth = Booth(rule, 1)
        booth.put("a", 2)
        booth.enter("one")
        self.raises(Endless, booth.finish, "one")
        booth.step("one")
        booth.start(0)
        self.raises(Endless, booth.finish, "one")
        booth.move(2)
        self.same([booth.finish("one"), booth.is_over("one"), booth.numbers_of("one")], [[[]], True, [1, -1]])
        booth.undo()
        booth.undo()
        self.raises(Endless, booth.finish, "one")

    def test_doubts_of_more_shapes_than_the_table_has(self):
        """The watch knows the cursors alone: with each shape that the rule has a call may have been made."""
        rule = Rule(2, {B: [(((0, 0),), 1), (((0, 1),), 1)], C: [((), 1), ((), 0)]})
        booth = Booth(rule, 1)
        booth.enter("one")
        self.raises(Endless, booth.finish, "one")
        self.same([booth.step("one"), len(booth.doubts_of("one"))], [[], 32])
        less = Booth(Rule(2, {B: [(((0, 0),), 1), (((0, 1),), 1)], C: [((), 0), ((), 0)]}), 1)
        less.enter("one")
        self.same([less.finish("one"), less.numbers_of("one"), less.can_stop("one")], [[[], []], [1, 1], True])

    def test_64_calls_in_a_row_in_a_ring_and_up_and_down(self):
        wide = (5,)
        row = Rule(64, {wide: [((), at + 1) for at in range(63)] + [((), None)]})
        ring = Rule(64, {wide: [(((0, at // 2),), (at + 1) % 64) for at in range(64)]})
        late = Rule(64, {wide: [(((0, 0),) if at else tuple(places_of(wide)[1:]), (at + 1) % 64 if at < 63 else 63)
                                for at in range(64)]})
        never = Rule(64, {wide: [(((0, at % 31),), (at + 1) % 64) for at in range(64)]})
        tail = Rule(64, {wide: [(((0, at // 2),) if at < 63 else (), min(at + 1, 63)) for at in range(64)]})
        for rule, calls in [(row, 64), (ring, 63), (late, 2), (never, None), (tail, 63)]:
            booth = Booth(rule, 5)
            booth.put("a", 31)
            booth.enter("one")
            if calls is None:
                self.raises(Endless, booth.finish, "one")
            else:
                self.same([len(booth.finish("one")), len(booth.numbers_of("one"))], [calls, calls])
        shapes = [(5,), (4,), (5, 4), (4, 5)]
        ways = {shape: [(tuple(places_of(shape)[at % 31::31]), (at + (1 if index % 2 else -1)) % 64) for at in range(64)]
                for index, shape in enumerate(shapes)}
        booth = Booth(Rule(64, ways), 5)
        for at in range(26):
            booth.put("abcdefghijklmnopqrstuvwxyz"[at], at)
        booth.enter("one")
        booth.enter("two")
        for at in range(70):
            booth.step("one")
            if at % 10 == 0:
                booth.start(9 - booth.shape[0])
            elif len(booth.shape) == 2:
                booth.move(2 ** booth.shape[0] // 8)
        self.same(len(booth.numbers_of("one")), 70)
        self.assertLessEqual(set(booth.surely_told("one")), set(booth.told("one")))
        self.same(booth.numbers_of("two"), [])
        other = booth.copy()
        while len(booth):
            booth.undo()
        self.same([booth.names, len(other.numbers_of("one"))], [[], 70])

    def test_copies(self):
        for seed in range(15):
            source, rule = random.Random(seed), desk_rule(seed)
            rows = [(Booth(rule, 2), Beside(rule, 2))]
            for _ in range(50):
                booth, other = source.choice(rows)
                if other.slow.history and source.random() < 0.2:
                    kind, given = "undo", ()
                else:
                    kind, given = desk_call(source, other.slow)
                self.same(getattr(booth, kind)(*given), other.call(kind, given))
                if source.random() < 0.12:
                    rows.append((booth.copy(), other.copied()))
                    self.assertIsInstance(rows[-1][0], Booth)
            for booth, other in rows:
                self.beside(booth, other)
            for booth, other in rows[::2]:
                while other.slow.history:
                    self.same(booth.undo(), other.call("undo", ()))
                self.raises(NothingToUndo, booth.undo)
            for booth, other in rows:
                self.beside(booth, other)

    def test_errors_of_the_constructor_in_their_order(self):
        for width in NO_WIDTHS:
            self.raises(InvalidWidth, Booth, RULE, width)
        for width in range(2, 6):
            self.raises(UnknownShape, Booth, RULE, width)

    def test_errors(self):
        booth = Booth(Rule(2, {**RULE.calls, BA: [((), 0), ((), 0)]}), 1)
        booth.put("a", 3)
        booth.enter("one")
        for name in NO_NAMES:
            for code in (3, None):
                self.raises(InvalidName, booth.put, name, code)
            self.raises(UnknownName, booth.drop, name)
            self.raises(InvalidName, booth.enter, name)
            for function in (booth.step, booth.told, booth.stayed, booth.is_over, booth.finish, booth.numbers_of,
                             booth.doubts_of, booth.surely_told, booth.can_stop):
                self.raises(UnknownLabel, function, name)
        for function in (booth.step, booth.finish, booth.told, booth.surely_told):
            self.raises(UnknownLabel, function, "a")
        for code in NO_HASHES:
            self.raises(InvalidHash, booth.put, "b", code)
            self.raises(DuplicateName, booth.put, "a", code)
        self.raises(DuplicateName, booth.enter, "one")
        self.raises(UnknownName, booth.drop, "one")
        for width in NO_WIDTHS + [1]:
            self.raises(InvalidWidth, booth.start, width)
        self.raises(UnknownShape, booth.start, 2)
        for count in ODD:
            self.raises(InvalidNumber, booth.move, count)
        self.same([len(booth), booth.names, booth.shape], [2, ["a"], B])
        booth.start(0)
        for width in range(6):
            self.raises(Moving, booth.start, width)
        for count in NO_INTEGERS + LARGE + [-1, 0, 3]:
            self.raises(InvalidNumber, booth.move, count)
        self.same([len(booth), booth.shape], [3, BA])
        for _ in range(3):
            booth.undo()
        self.raises(NothingToUndo, booth.undo)
        self.raises(UnknownLabel, booth.finish, "one")

    def test_labels_that_come_again_behind_an_undo(self):
        booth = Booth(RULE, 1)
        booth.enter("one")
        booth.step("one")
        booth.undo()
        booth.undo()
        for function in (booth.numbers_of, booth.doubts_of, booth.surely_told, booth.can_stop, booth.finish):
            self.raises(UnknownLabel, function, "one")
        booth.enter("one")
        self.same([booth.numbers_of("one"), len(booth.doubts_of("one")), booth.told("one")], [[], 32, {}])

    def test_lists_and_dicts_are_new(self):
        booth = Booth(Rule(2, {B: [(tuple(places_of(B)), 1), ((), 0)]}), 1)
        for name, code in (("b", 1), ("a", 2)):
            booth.put(name, code)
        booth.enter("one")
        for told in booth.finish("one"):
            told.clear()
        for ask, wanted in [
                (lambda: booth.names, ["a", "b"]), (lambda: booth.told("one"), {"a": 1, "b": 1}),
                (lambda: booth.stayed("one"), ["a", "b"]), (lambda: booth.numbers_of("one"), [1]),
                (lambda: booth.surely_told("one"), ["a", "b"]), (lambda: booth.doubts_of("one"), [])]:
            got = ask()
            self.same(got, wanted)
            got.clear()
            self.same(ask(), wanted)
            ask().append(1) if isinstance(got, list) else ask().update(a=9)
            self.same(ask(), wanted)
        got = booth.finish("one")
        self.same(got, [[]])
        got.clear()
        self.same(booth.numbers_of("one"), [1, 0])
