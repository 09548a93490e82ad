"""Promises 2, 9 and 25: clear traces."""

import random

from seencursors.clear import doubt_book, first_clear, is_doubt_book
from seencursors.doubts import doubt_run, in_doubt
from seencursors.errors import InvalidNumber, Mismatch
from seencursors.roads import Road, full_road
from seencursors.rules import Rule
from seencursors.runs import is_run, listed
from seencursors.traces import is_trace, nexts, trace_of

from helpers import LARGE, NO_HASHES, NO_INTEGERS, ODD, Case, places_of
from model import World, long_worlds, some_calls, some_worlds
from seen import doubts_by_trace, first_of, is_run_of, walks

A, B, AB, C = (0,), (1,), (0, 1), (2,)
RULE = Rule(2, {A: [(((0, 0),), None), ((), None)], B: [(((0, 0),), 1), (((0, 1),), None)]})
ROAD = full_road([A, B])
ALONE = Road([B], [])
NO_MOSTS = NO_INTEGERS + LARGE + [-1, 0, 7, 8]


def row_rule(cursors, lists_at, shape=B, last=None):
    """A rule whose listings go through the cursors in a row, and list everything with some of them, else nothing."""
    everything = tuple(places_of(shape))
    return Rule(cursors, {shape: [
        (everything if cursor in lists_at else (), cursor + 1 if cursor + 1 < cursors else last)
        for cursor in range(cursors)]})


def is_book_of(world, most, paper):
    """[25], for a dict from tuples of integers to tuples of an integer and something."""
    if set(paper) != set(doubts_by_trace(world, most)):
        return False
    return all(code in range(32) and is_run_of(world, trace, code, run) for trace, (code, run) in paper.items())


def waiting_run(world, shapes, cursors, code):
    return [world.of([shape], cursor, code)[0][:2] for shape, cursor in zip(shapes, cursors)]


def some_books(seed, count, most):
    """Tuples of worlds and their books."""
    rows = [(world, doubt_book(world.rule, world.road, most)) for world in some_worlds(seed, count)]
    return [(world, book) for world, book in rows if book is not None]


class ClearTest(Case):

    def test_examples(self):
        self.same([first_clear(RULE, ROAD, 2), doubt_book(RULE, ROAD, 2)], [[-1], None])
        self.same([first_clear(RULE, ALONE, 1), first_clear(RULE, ALONE, 2),
                   is_doubt_book(RULE, ALONE, 1, {(1,): (7, [(B, False)])})], [None, [1, -1], True])

    def test_named(self):
        self.same(first_clear(most=2, road=ALONE, rule=RULE), [1, -1])
        self.assertEqual(list(doubt_book(most=1, road=ALONE, rule=RULE)), [(1,)])
        self.same(is_doubt_book(thing={}, most=1, road=ALONE, rule=RULE), False)

    def test_everything_early_late_or_never(self):
        for at in range(8):
            rule = row_rule(8, [at])
            for most in range(1, 7):
                wanted = list(range(1, at + 2)) if at < most else None
                self.keeps(wanted, first_clear, rule, ALONE, most)
                self.assertIs(doubt_book(rule, ALONE, most) is None, at < most)
        for most in range(1, 7):
            self.keeps(None, first_clear, row_rule(2, [], last=0), ALONE, most)
            self.keeps(None, first_clear, row_rule(2, []), ALONE, most)
            # The last call ends, and no more numbers come.
            self.keeps([1, 2, -1] if most > 2 else None, first_clear, row_rule(3, [2]), ALONE, most)
        self.assertEqual(list(doubt_book(row_rule(2, []), ALONE, 6)), [(1,), (1, -1)])
        self.assertEqual(list(doubt_book(row_rule(2, [], last=0), ALONE, 6)),
                         [(1, 0, 1, 0, 1, 0)[:many] for many in range(1, 7)])

    def test_half_of_the_places_each_time(self):
        rule = Rule(3, {B: [(((0, 0),), 1), (((0, 0),), 2), (((0, 1),), 0)]})
        self.same([first_clear(rule, ALONE, most) for most in (1, 2, 3, 4)], [None, None, [1, 2, 0], [1, 2, 0]])
        moving = Rule(2, {AB: [(((0, 0), (1, 0)), 1), (((0, 0), (1, 1)), 0)]})
        self.same(first_clear(moving, Road([AB], []), 6), [1, 0])
        # With each call another table can hold the key.
        apart = Rule(2, {AB: [(((0, 0),), 1), (((1, 0), (1, 1)), 0)]})
        self.same(first_clear(apart, Road([AB], []), 6), None)

    def test_the_first_of_several_shortest(self):
        everything = {shape: tuple(places_of(shape)) for shape in (A, B, C)}
        def rule(numbers, listing=everything):
            return Rule(13, {shape: [(listing[shape], number)] * 13 for shape, number in zip((A, B, C), numbers)})
        for numbers, wanted in [((10, 2, 12), 2), ((2, 10, 1), 1), ((12, 11, 10), 10), ((0, None, 5), -1),
                                ((None, 0, 0), -1), ((9, 10, 11), 9), ((11, 10, 9), 9)]:
            self.keeps([wanted], first_clear, rule(numbers), full_road([A, B, C]), 3)
        # A shorter one comes ahead of one that is less.
        some = {A: (), B: tuple(places_of(B)), C: tuple(places_of(C))}
        self.same(first_clear(rule((None, 12, 11), some), full_road([A, B, C]), 3), [11])
        self.same(first_clear(rule((1, 10, 2), some), full_road([A, B, C]), 3), [2])
        # The first call tells nothing, and behind each number the second one may tell all.
        calls = {shape: [((), number)] + [(everything[shape], last)] * 12
                 for shape, number, last in ((A, 12, 3), (B, 2, 11), (C, 10, None))}
        self.same(first_clear(Rule(13, calls), full_road([A, B, C]), 6), [2, -1])
        self.same(first_clear(Rule(13, calls), full_road([A, B]), 6), [2, 3])
        self.same(first_clear(Rule(13, calls), Road([A, C], []), 6), [10, -1])
        self.same(first_clear(Rule(13, calls), Road([A, B], []), 6), [2, 11])

    def test_keys_of_one_and_two_figures_in_their_order(self):
        calls = {A: [((), 12), *[((), None)] * 12], B: [((), 2), *[((), 10)] * 12], C: [((), None), *[((), 3)] * 12]}
        book = self.fresh(doubt_book, Rule(13, calls), full_road([A, B, C]), 2)
        behind = [(-1,), (3,), (10,)]
        self.assertEqual(list(book), [(-1,), (2,)] + [(2,) + row for row in behind]
                         + [(12,)] + [(12,) + row for row in behind])

    def test_against_the_words(self):
        seen = {}
        worlds = some_worlds(201, 120, tells=(0.6, 0.9)) + some_worlds(202, 60, most_cursors=2, tells=(0.8,))
        for world in worlds + long_worlds(203, 10):
            for most in (1, 2, 3, 4, 6):
                found = doubts_by_trace(world, most)
                wanted = first_of(found)
                self.keeps(wanted, first_clear, world.rule, world.road, most)
                book = doubt_book(world.rule, world.road, most)
                self.assertIs(book is None, wanted is not None)
                if book is not None:
                    self.assertEqual(list(book), sorted(found))
                    self.assertIs(is_book_of(world, most, book), True)
                    self.assertIs(is_doubt_book(world.rule, world.road, most, book), True)
                    turned = dict(reversed(list(book.items())))
                    self.assertIs(is_doubt_book(world.rule, world.road, most, turned), True)
                seen[most, len(wanted or [])] = seen.get((most, len(wanted or [])), 0) + 1
        for length in (0, 1, 2, 3):
            self.assertGreater(seen[6, length], 3, seen)

    def test_books_are_new(self):
        for world, _ in some_books(204, 40, 3):
            self.fresh(doubt_book, world.rule, world.road, 3)

    def test_no_book_where_a_trace_is_clear(self):
        for world in some_worlds(205, 60, tells=(0.9,)):
            wanted = first_clear(world.rule, world.road, 3)
            if wanted is None:
                continue
            rows = {trace: codes for trace, codes in doubts_by_trace(world, 3).items() if codes}
            paper = {trace: (min(codes), doubt_run(world.rule, world.road, list(trace), min(codes)))
                     for trace, codes in rows.items()}
            self.assertIs(is_doubt_book(world.rule, world.road, 3, paper), False)
            for run in ([], [(world.begin[0], False)]):
                self.assertIs(is_doubt_book(world.rule, world.road, 3, {**paper, tuple(wanted): (0, run)}), False)

    def test_near_a_book(self):
        seen = {True: 0, False: 0}
        source = random.Random(206)
        for world, book in some_books(207, 60, 3):
            runs = [run for run, _ in world.runs(3)]
            for trace in source.sample(list(book), min(len(book), 6)):
                code, run = book[trace]
                rest = {key: worth for key, worth in book.items() if key != trace}
                others = [(other, run) for other in (0, 1, 5, 31)] + [(code, run[:-1]), (code, run + run[-1:])]
                others += [(code, source.choice(runs)) for _ in range(6)] + [source.choice(list(book.values()))]
                things = [rest] + [{**book, trace: other} for other in others]
                for number in (-1, 0, 1, 2):
                    things.append({**book, trace + (number,): (code, run)})
                    things.append({**rest, trace + (number,): (code, run)})
                    things.append({**rest, trace[:-1] + (number,): (code, run)})
                # A right run, of a trace that is none of the keys.
                longer = [(numbers, (min(left), waiting_run(world, shapes, cursors, min(left))))
                          for shapes, cursors, numbers, left in walks(world, 4) if len(numbers) == 4 and left]
                things += [{**rest, numbers: worth} for numbers, worth in longer[:3]]
                for thing in things + [{**book, (): (code, [])}, {**rest, (): (code, run)}, {**rest, (): (code, [])}]:
                    wanted = is_book_of(world, 3, thing)
                    seen[wanted] += 1
                    self.assertIs(is_doubt_book(world.rule, world.road, 3, thing), wanted, thing)
                for most in (1, 2, 4):
                    self.assertIs(is_doubt_book(world.rule, world.road, most, book), is_book_of(world, most, book))
        self.assertGreater(min(seen.values()), 200)

    def test_things_that_are_no_books(self):
        rule = Rule(2, {A: [((), None), ((), 0)], B: [(((0, 0),), 1), (((0, 0),), None)]})
        road = Road([B], [(B, A)])
        book = {(1,): (1, [(B, False)]), (1, -1): (3, [(B, False), (B, False)]), (1, 0): (5, [(B, False), (A, False)])}
        self.assertIs(is_doubt_book(rule, road, 2, book), True)
        for thing in ODD + [list(book.items()), list(book), tuple(book.items()), [book], (book,)]:
            self.assertIs(is_doubt_book(rule, road, 2, thing), False)
        for key, (code, run) in book.items():
            rest = {other: worth for other, worth in book.items() if other != key}
            for odd in ODD + [[code, run], (code, run, 0), (code,), (run, code), ((code, run),), [(code, run)], run]:
                self.assertIs(is_doubt_book(rule, road, 2, {**book, key: odd}), False, odd)
            for odd in NO_HASHES:
                self.assertIs(is_doubt_book(rule, road, 2, {**book, key: (odd, run)}), False, odd)
            for odd in ODD + [tuple(run), [list(step) for step in run], [(shape, 0) for shape, _ in run], [run]]:
                self.assertIs(is_doubt_book(rule, road, 2, {**book, key: (code, odd)}), False, odd)
            for odd in [tuple(bool(number) if number in (0, 1) else number for number in key), key + (True,), (True,),
                        (1, False), "1", 1, True, None, (key,), ("1",), (-2,), (64,), (1, -2), (1, None), ((),)]:
                self.assertIs(is_doubt_book(rule, road, 2, {**rest, odd: (code, run)}), False, odd)
                if odd not in book:
                    self.assertIs(is_doubt_book(rule, road, 2, {**book, odd: (code, run)}), False, odd)

    def test_runs_that_show_no_doubt(self):
        rule = Rule(2, {A: [((), None), ((), 0)], B: [(((0, 0),), 1), (((0, 0),), None)], AB: [((), 1), ((), 0)]})
        road = Road([B, AB], [(B, A)])
        book = doubt_book(rule, road, 2)
        for key, run, code, wanted in [
                ((1,), [(B, False)], 1, True), ((1,), [(B, False)], 2, False), ((1,), [(AB, False)], 2, True),
                ((1,), [(AB, True)], 31, True), ((1,), [(AB, True), (AB, True)], 31, False), ((1,), [], 1, False),
                ((1,), [(A, False)], 1, False), ((1, 0), [(B, False), (A, False)], 7, True),
                ((1, 0), [(AB, False), (AB, True)], 6, True), ((1, 0), [(B, False), (A, False)], 6, False),
                ((1, 0), [(B, False), (B, False)], 7, False), ((1, 0), [(AB, False), (A, False)], 7, False),
                ((1, 0), [(B, False), (AB, False)], 7, False), ((1, -1), [(B, False), (B, False)], 7, True),
                ((1, -1), [(B, False)], 7, False), ((1,), [(B, True)], 1, False), ((1,), [(C, False)], 1, False)]:
            self.assertIs(is_doubt_book(rule, road, 2, {**book, key: (code, run)}), wanted, (key, run, code))

    def test_errors_in_their_order(self):
        for function, rest in [(first_clear, []), (doubt_book, []), (is_doubt_book, [{}]), (is_doubt_book, [None])]:
            for road in (Road([A, C], []), Road([A], [(A, C)]), full_road([AB])):
                self.raises(Mismatch, function, RULE, road, 1, *rest)
                self.raises(Mismatch, function, RULE, road, 0, *rest)
                self.raises(Mismatch, function, RULE, road, None, *rest)
            for most in NO_MOSTS:
                self.raises(InvalidNumber, function, RULE, ROAD, most, *rest)
            for most in range(1, 7):
                function(RULE, ROAD, most, *rest)

    def test_a_book_is_asked_for_each_number(self):
        rule = row_rule(9, [])
        for most in range(1, 7):
            book = {tuple(range(1, many + 1)): (9, [(B, False)] * many) for many in range(1, most + 1)}
            for other in range(1, 7):
                self.assertIs(is_doubt_book(rule, ALONE, other, book), other == most)

    def test_greatest_rules_and_roads(self):
        source = random.Random(208)
        shapes = [(5, 4), (4, 5), (5,)]
        for tells, most in ((0.2, 6), (0.8, 6), (0.97, 6), (1.0, 1)):
            rule, road = Rule(64, some_calls(source, 64, shapes, 0.02, tells)), full_road(shapes)
            trace, book = first_clear(rule, road, most), doubt_book(rule, road, most)
            self.assertIs(trace is None, book is not None)
            if trace is not None:
                self.assertEqual(in_doubt(rule, road, trace), [])
                continue
            self.assertIs(is_doubt_book(rule, road, most, book), True)
            rows = [[]]
            for row in rows:
                if len(row) < most:
                    rows.extend(row + [number] for number in nexts(rule, road, row))
            self.assertEqual(list(book), sorted(tuple(row) for row in rows[1:]))
            for key, (code, run) in list(book.items())[::50]:
                self.assertIs(is_run(rule, road, run), True)
                self.assertEqual(trace_of(rule, road, run), list(key))
                self.assertNotIn(True, listed(rule, road, run, code))

    def test_in_turns(self):
        worlds = some_worlds(209, 4, tells=(0.6, 0.9))
        asked = [(world, most) for world in worlds for most in (1, 2, 3, 6)]
        fresh = {}
        for at, (world, most) in enumerate(asked):
            rule, road = Rule(world.cursors, world.calls), Road(world.begin, world.changes)
            fresh[at] = [first_clear(rule, road, most), doubt_book(rule, road, most)]
        order = list(range(len(asked))) * 3
        random.Random(210).shuffle(order)
        for at in order:
            world, most = asked[at]
            self.same([first_clear(world.rule, world.road, most), doubt_book(world.rule, world.road, most)], fresh[at])

    def test_what_first_clear_returns_is_a_trace(self):
        for world in some_worlds(211, 60, tells=(0.9,)):
            trace = first_clear(world.rule, world.road, 6)
            if trace is not None:
                self.assertIs(is_trace(world.rule, world.road, trace), True)
                self.assertEqual(in_doubt(world.rule, world.road, trace), [])
                self.assertIsNotNone(doubt_book(world.rule, world.road, len(trace) - 1) if len(trace) > 1 else 0)

    def test_one_hash_in_doubt(self):
        wide = (5,)
        for code in (0, 9, 31):
            rule = Rule(1, {wide: [(tuple((0, at) for at in range(32) if at != code), 0)]})
            self.keeps({(0,): (code, [(wide, False)]), (0, 0): (code, [(wide, False)] * 2)}, doubt_book, rule,
                       Road([wide], []), 2)

    def test_worlds_of_one_shape(self):
        world = World(3, {C: [(((0, 1),), 2), ((), 0), (((0, 0), (0, 2), (0, 3)), 1)]}, [C], [])
        self.keeps([2, 1], first_clear, world.rule, world.road, 2)
        self.keeps(None, first_clear, world.rule, world.road, 1)
        book = self.fresh(doubt_book, world.rule, world.road, 1)
        self.assertEqual(list(book), [(2,)])
        self.assertIs(is_book_of(world, 1, book), True)
