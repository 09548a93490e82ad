"""Promises 2, 9 and 24: latest stops."""

import random

from seencursors.errors import InvalidNumber, Mismatch
from seencursors.doubts import in_doubt
from seencursors.roads import Road, full_road
from seencursors.rules import Rule
from seencursors.runs import is_run, is_whole, listed
from seencursors.stops import is_stop_paper, latest_stop, stop_paper

from helpers import NO_NUMBERS, ODD, TWELVE, Case, bent, no_papers, places_of
from model import World, are_heights, long_worlds, some_calls, some_worlds

A, B, AB, C = (0,), (1,), (0, 1), (2,)
RULE = Rule(2, {A: [(((0, 0),), None), ((), None)], B: [(((0, 0),), 1), (((0, 1),), None)]})
ROAD = full_road([A, B])
PAPER = [{(B, False, 0): 1} if code % 2 == 1 else {} for code in range(32)]


def latest_by_words(world):
    """The greatest number of calls of one who stops, by what is in doubt behind each trace, or None.

    It goes on as long as something is in doubt and the listing has not ended; a set of what can be known is a tuple
    of the hashes in doubt with each shape of the last call, and the cursor.
    """
    level, calls, most = {(0, tuple((shape, frozenset(range(32))) for shape in world.begin))}, 0, None
    first = True
    while level:
        calls += 1
        if calls > 2 + 32 * len(world.situations()):
            return None
        further = set()
        for cursor, came in level:
            shapes = {}
            for shape, codes in came:
                for other in [shape] if first else world.after(shape):
                    shapes[other] = shapes.get(other, frozenset()) | codes
            by_number = {}
            for shape, codes in shapes.items():
                left = frozenset(code for code in codes if world.of([shape], cursor, code))
                by_number.setdefault(world.calls[shape][cursor][1], []).append((shape, left))
            for number, rows in by_number.items():
                if number is not None and any(codes for _, codes in rows):
                    further.add((number, tuple(sorted(rows, key=lambda row: row[0]))))
        level, first = further, False
    return calls


def is_stop_by_words(world, number, lists):
    return number > 0 and all(
        are_heights(world, code, number - 1, paper, goes_on=True) for code, paper in enumerate(lists))


class StopsTest(Case):

    def test_examples(self):
        self.same([latest_stop(RULE, ROAD)[0], stop_paper(RULE, ROAD, 1)], [2, None])
        self.same(is_stop_paper(RULE, ROAD, 2, PAPER), True)

    def test_named(self):
        self.same(latest_stop(road=ROAD, rule=RULE)[0], 2)
        self.same(stop_paper(number=2, road=ROAD, rule=RULE), PAPER)
        self.same(is_stop_paper(thing=PAPER, number=3, road=ROAD, rule=RULE), True)

    def test_one_call(self):
        everything = Rule(1, {A: [(((0, 0),), 0)], AB: [(((0, 0), (1, 0), (1, 1)), 0)]})
        ends = Rule(2, {A: [((), None), ((), 1)], AB: [((), None), ((), 1)]})
        for rule in (everything, ends):
            number, code, run = self.fresh(latest_stop, rule, full_road([A, AB]))
            self.same([number, len(run), is_run(rule, full_road([A, AB]), run), 0 <= code < 32], [1, 1, True, True])
            self.same([stop_paper(rule, full_road([A, AB]), at) for at in (0, 1, 9)], [None] + [[{}] * 32] * 2)
            for thing in ([{} for _ in range(32)], [], None, {}):
                self.assertIs(is_stop_paper(rule, full_road([A, AB]), 0, thing), False)
        # A call that ends and misses a hash is the last one.
        self.assertIs(is_whole(ends, full_road([A]), latest_stop(ends, full_road([A]))[2]), True)

    def test_latest_against_the_words(self):
        seen = {}
        worlds = some_worlds(101, 100, most_cursors=4, ends=(0.0, 0.3), tells=(0.6, 0.9))
        for world in worlds + long_worlds(101, 30, cursors=5):
            got = self.fresh(latest_stop, world.rule, world.road)
            wanted = latest_by_words(world)
            seen[wanted] = seen.get(wanted, 0) + 1
            if wanted is None:
                self.assertIsNone(got)
                continue
            number, code, run = got
            self.same([number, len(run)], [wanted, wanted])
            self.assertIs(is_run(world.rule, world.road, run), True)
            self.assertNotIn(True, listed(world.rule, world.road, run, code)[:-1])
            waits = [sum(1 for level in world.levels(hash_, wanted + 1) if any(
                world.later(part) is not None for part in level)) for hash_ in range(32)]
            self.assertEqual(number, 1 + max(waits))
        self.assertGreater(len([number for number in seen if seen[number] > 2]), 3, seen)

    def test_papers_for_each_number(self):
        for world in some_worlds(102, 100, most_cursors=4, ends=(0.1, 0.4), tells=(0.6, 0.9)):
            latest = latest_stop(world.rule, world.road)
            number = 10 ** 39 if latest is None else latest[0]
            for at in sorted({0, 1, number - 1, number, number + 1, 10 ** 40 - 1}):
                paper = self.fresh(stop_paper, world.rule, world.road, at)
                self.assertIs(paper is not None, latest is not None and at >= number)
                if paper is not None:
                    self.assertIs(is_stop_by_words(world, at, paper), True)
                    self.assertIs(is_stop_paper(world.rule, world.road, at, paper), True)
                    self.assertIs(is_stop_paper(world.rule, world.road, number - 1, paper), False)
                    turned = [dict(reversed(list(part.items()))) for part in paper]
                    self.assertIs(is_stop_paper(world.rule, world.road, at, turned), True)

    def test_near_a_paper(self):
        seen = {True: 0, False: 0}
        source = random.Random(103)
        for world in some_worlds(104, 60, widths=(0, 1), most_cursors=4, ends=(0.2, 0.5), tells=(0.6, 0.8)):
            latest = latest_stop(world.rule, world.road)
            if latest is None:
                continue
            paper = stop_paper(world.rule, world.road, latest[0])
            for code in source.sample(range(32), 3):
                for start in (paper[code], {key: 3 * height for key, height in paper[code].items()}):
                    for part in bent(start, world.situations(), lambda height: [height - 1, height + 1, height + 7]):
                        thing = paper[:code] + [part] + paper[code + 1:]
                        for number in (latest[0], 3 * latest[0]):
                            wanted = is_stop_by_words(world, number, thing)
                            seen[wanted] += 1
                            self.assertIs(is_stop_paper(world.rule, world.road, number, thing), wanted, part)
                other = paper[:code] + [paper[(code + 1) % 32]] + paper[code + 1:]
                self.assertIs(is_stop_paper(world.rule, world.road, latest[0], other),
                              is_stop_by_words(world, latest[0], other))
        self.assertGreater(min(seen.values()), 200)

    def test_another_hash_s_dict(self):
        for code in (0, 1, 30, 31):
            for part in PAPER[:2]:
                thing = PAPER[:code] + [part] + PAPER[code + 1:]
                self.assertIs(is_stop_paper(RULE, ROAD, 2, thing), thing == PAPER)
        self.assertIs(is_stop_paper(RULE, ROAD, 2, PAPER[1:] + PAPER[:1]), False)

    def test_situations_that_end_are_no_keys(self):
        world = World(2, RULE.calls, [A, B], [(A, B), (B, A)])
        # (A, False, 1) waits, but ends.
        for part in ({(B, False, 0): 2, (A, False, 1): 1}, {(B, False, 0): 1, (B, False, 1): 1}):
            thing = [dict(part) if code % 2 == 1 else {} for code in range(32)]
            self.same([is_stop_by_words(world, 3, thing), is_stop_paper(RULE, ROAD, 3, thing)], [False, False])

    def test_things_that_are_no_papers(self):
        for thing in ODD + [tuple(PAPER), PAPER[:31], PAPER + [{}], PAPER[1:], [{}] * 32, dict(enumerate(PAPER)),
                            PAPER[:1], [list(part) for part in PAPER], [None] * 32, [PAPER]]:
            self.assertIs(is_stop_paper(RULE, ROAD, 2, thing), False, thing)
        for part in list(no_papers(PAPER[1])) + [thing for thing in ODD if thing != {}]:
            for code in (1, 31):
                thing = PAPER[:code] + [part] + PAPER[code + 1:]
                self.assertIs(is_stop_paper(RULE, ROAD, 2, thing), False, part)
        for worth in ODD:
            thing = PAPER[:3] + [{(B, False, 0): worth}] + PAPER[4:]
            self.assertIs(is_stop_paper(RULE, ROAD, 2, thing), repr(worth) == "1", worth)

    def test_a_loop_for_some_hash(self):
        rule = Rule(2, {(5,): [(tuple((0, at) for at in range(31)), 1), (tuple((0, at) for at in range(31)), 0)]})
        self.keeps(None, latest_stop, rule, full_road([(5,)]))
        self.keeps(None, stop_paper, rule, full_road([(5,)]), 10 ** 39)
        other = rule.with_call((5,), 1, (((0, 31),), 0))
        number, code, run = latest_stop(other, full_road([(5,)]))
        self.same([number, code, run], [2, 31, [((5,), False)] * 2])
        for most in (0, 5, 31):
            # The greatest number is that of one hash alone.
            lists = [tuple((0, at) for at in range(32) if at != most)] * 3 + [tuple((0, at) for at in range(32))]
            rule = Rule(4, {(5,): [(listing, min(3, at + 1)) for at, listing in enumerate(lists)]})
            self.same(latest_stop(rule, full_road([(5,)])), (4, most, [((5,), False)] * 4))
        rule = Rule(2, {(5,): [(tuple((0, at) for at in range(31)), 1), (tuple((0, at) for at in range(31)), 0)]})
        far = rule.with_call((5,), 1, (tuple((0, at) for at in range(31)), None))
        self.same(latest_stop(far, full_road([(5,)])), (2, 31, [((5,), False)] * 2))

    def test_errors_in_their_order(self):
        for road in (Road([A, C], []), Road([A], [(A, C)]), full_road([AB])):
            self.raises(Mismatch, latest_stop, RULE, road)
            for number in (2, None, True, -1):
                self.raises(Mismatch, stop_paper, RULE, road, number)
                self.raises(Mismatch, is_stop_paper, RULE, road, number, PAPER)
        for number in NO_NUMBERS:
            self.raises(InvalidNumber, stop_paper, RULE, ROAD, number)
            self.raises(InvalidNumber, is_stop_paper, RULE, ROAD, number, PAPER)
            self.raises(InvalidNumber, is_stop_paper, RULE, ROAD, number, None)

    def test_64_cursors_and_twelve_shapes(self):
        road = full_road(TWELVE)
        calls = {shape: [((), at + 1 if at < 63 else None) for at in range(64)] for shape in TWELVE}
        rule = Rule(64, calls)
        number, code, run = latest_stop(rule, road)
        self.same([number, len(run), is_run(rule, road, run)], [64, 64, True])
        paper = stop_paper(rule, road, 64)
        self.same([is_stop_paper(rule, road, at, paper) for at in (63, 64, 65)], [False, True, True])
        paper[31][(5, 4), True, 40] += 1
        self.assertIs(is_stop_paper(rule, road, 64, paper), False)
        self.assertIs(stop_paper(rule, road, 63), None)
        round_it = rule.with_call((5, 4), 63, ((), 0))
        self.same([latest_stop(round_it, road), stop_paper(round_it, road, 10 ** 39)], [None, None])
        told = round_it.with_call((5, 4), 63, (tuple(places_of((5, 4))), 0))
        self.same(latest_stop(told, road)[0], 64)

    def test_in_turns(self):
        source = random.Random(105)
        worlds = some_worlds(106, 4, tells=(0.8,))
        fresh = [(latest_stop(Rule(world.cursors, world.calls), world.road),
                  stop_paper(Rule(world.cursors, world.calls), world.road, 9)) for world in worlds]
        for _ in range(20):
            at = source.randrange(4)
            self.same((latest_stop(worlds[at].rule, worlds[at].road), stop_paper(worlds[at].rule, worlds[at].road, 9)),
                      fresh[at])

    def test_many_cursors_at_random(self):
        source, road = random.Random(107), full_road(TWELVE)
        for ends, tells in [(0.0, 0.97), (0.3, 0.95), (0.0, 0.5)]:
            rule = Rule(64, some_calls(source, 64, TWELVE, ends, tells))
            latest = latest_stop(rule, road)
            paper = stop_paper(rule, road, 10 ** 6)
            self.assertIs(latest is None, paper is None)
            if latest:
                self.assertIs(is_stop_paper(rule, road, 10 ** 6, paper), True)
                self.assertIs(stop_paper(rule, road, latest[0] - 1), None)
                self.assertNotIn(True, listed(rule, road, latest[2], latest[1])[:-1])
                self.assertIn(latest[1], in_doubt(rule, road, []))
