"""Promise 9: what holds of the listings of desks and booths, beside what the functions of the stages before tell."""

import random

from seencursors.booths import Booth
from seencursors.desks import Desk
from seencursors.doubts import in_doubt
from seencursors.marks import doubts_behind, is_story, shapes_behind
from seencursors.missed import missed_run
from seencursors.roads import full_road
from seencursors.rules import Rule
from seencursors.runs import is_run, is_whole, listed
from seencursors.switches import fewest_switches
from seencursors.traces import is_trace, shapes_at, trace_of
from seencursors.waits import longest_wait

from helpers import Case, places_of
from slow import SlowDesk, agreed_rule, desk_call, desk_rule

INFINITE = 10 ** 9


def switches(run):
    return sum(1 for one, two in zip(run, run[1:]) if one[0] != two[0])


def some_rules(count):
    """Rules with which listings tell keys often, now and then, and with ends."""
    for seed in range(count):
        yield seed, agreed_rule(seed, 3 + seed % 4) if seed % 2 else desk_rule(
            seed, widths=(0, 1, 2) if seed % 4 else (1, 2), tells=(0.6, 0.8, 0.95)[seed % 3], ends=0.15)


class Bounds:
    """The greatest waits and the least numbers of switches of a rule, each asked for once."""

    def __init__(self, rule):
        self.rule, self.road, self.known = rule, full_road(rule.shapes), {}

    def of(self, code):
        if code not in self.known:
            found = [function(self.rule, self.road, code) for function in (longest_wait, fewest_switches)]
            self.known[code] = [INFINITE if part is None else part[0] for part in found]
        return self.known[code]


class DeskFactsTest(Case):

    def check_listing(self, desk, keys, label, bounds, seen):
        """What the facts say of a listing that has made one or more calls."""
        rule, road, told = desk.rule, bounds.road, desk.told(label)
        traces = []
        for name in desk.stayed(label):
            run, code = desk.run_of(label, name), keys[name][0]
            if not run:
                return
            self.assertIs(is_run(rule, road, run), True)
            traces.append(trace_of(rule, road, run))
            self.same(is_whole(rule, road, run), desk.is_over(label))
            self.same(sum(listed(rule, road, run, code)), told.get(name, 0))
            if code not in in_doubt(rule, road, traces[-1]):
                seen["sure"] += 1
                self.assertIn(name, told)
            wait, least = bounds.of(code)
            if len(run) > wait:
                seen["waited"] += 1
                self.assertIn(name, told)
            if desk.is_over(label) and switches(run) < least:
                seen["switched"] += 1
                self.assertIn(name, told)
            if desk.is_over(label) and missed_run(rule, road, code) is None:
                self.assertIn(name, told)
            self.assertIn(run[-1][0], shapes_at(rule, road, traces[-1]))
        self.assertTrue(all(trace == traces[0] for trace in traces))
        seen["traces"] += len(traces) > 1

    def test_listings_of_desks(self):
        seen = {"sure": 0, "waited": 0, "switched": 0, "traces": 0}
        for seed, rule in some_rules(60):
            source, bounds = random.Random(seed), Bounds(rule)
            width = source.choice([shape[0] for shape in rule.shapes if len(shape) == 1])
            desk, slow = Desk(rule, width), SlowDesk(rule.calls, width)
            for _ in range(45):
                kind, given = ("undo", ()) if slow.history and source.random() < 0.1 else desk_call(source, slow)
                getattr(slow, kind)(*given)
                getattr(desk, kind)(*given)
                if kind in ("step", "drop", "undo"):
                    for label in slow.listings:
                        self.check_listing(desk, slow.table.keys, label, bounds, seen)
        self.assertGreater(min(seen.values()), 100, seen)

    def test_listings_of_booths(self):
        seen = {"sure": 0, "doubts": 0, "clear": 0}
        for seed, rule in some_rules(60):
            source, road = random.Random(seed), full_road(rule.shapes)
            width = source.choice([shape[0] for shape in rule.shapes if len(shape) == 1])
            booth, slow = Booth(rule, width), SlowDesk(rule.calls, width)
            for _ in range(45):
                kind, given = ("undo", ()) if slow.history and source.random() < 0.1 else desk_call(source, slow)
                getattr(slow, kind)(*given)
                getattr(booth, kind)(*given)
                for label, listing in slow.listings.items():
                    self.check_watched(booth, label, slow, listing, road, seen)
        self.assertGreater(min(seen.values()), 100, seen)

    def check_watched(self, booth, label, slow, listing, road, seen):
        trace, doubts = booth.numbers_of(label), booth.doubts_of(label)
        self.same(trace, listing["trace"])
        self.assertIs(is_trace(booth.rule, road, trace), True)
        self.same(doubts, in_doubt(booth.rule, road, trace))
        sure = booth.surely_told(label)
        self.same(sure, [name for name in sorted(listing["stayed"]) if slow.table.keys[name][0] not in doubts])
        self.assertLessEqual(set(sure), set(booth.told(label)))
        self.same(booth.can_stop(label), doubts == [])
        if booth.can_stop(label):
            self.same(sure, booth.stayed(label))
        seen["sure"] += len(sure) > 0
        seen["doubts"] += len(doubts) < 32
        seen["clear"] += booth.can_stop(label)

    def test_keys_that_stay_as_marks(self):
        """What a listing told of some keys that have stayed is a story, and what is not in doubt behind it was told."""
        seen = {"stories": 0, "sure": 0, "more": 0}
        for seed, rule in some_rules(50):
            source, road = random.Random(seed), full_road(rule.shapes)
            width = source.choice([shape[0] for shape in rule.shapes if len(shape) == 1])
            desk, codes, told = Desk(rule, width), source.sample(range(32), 6), []
            for at, code in enumerate(codes):
                desk.put("abcdef"[at], code)
            desk.enter("one")
            for _ in range(6):
                if desk.is_over("one"):
                    break
                told.append(desk.step("one"))
                if len(desk.shape) == 2:
                    desk.move(1)
                elif source.random() < 0.4:
                    can = [shape[1] for shape in rule.shapes if len(shape) == 2 and shape[0] == desk.shape[0]
                           and (shape[1],) in rule.shapes]
                    desk.start(source.choice(can))
            trace = trace_of(rule, road, desk.run_of("one", "a"))
            for names in ("", "a", "cb", "fade"):
                marks = [codes["abcdef".index(name)] for name in names]
                story = [(number, tuple(name in row for name in names)) for number, row in zip(trace, told)]
                self.assertIs(is_story(rule, road, marks, story), True)
                self.assertIn(desk.run_of("one", "a")[-1][0], shapes_behind(rule, road, marks, story))
                doubts = doubts_behind(rule, road, marks, story)
                seen["stories"] += 1
                seen["more"] += len(doubts) < len(in_doubt(rule, road, trace))
                for at, code in enumerate(codes):
                    if code not in doubts:
                        seen["sure"] += 1
                        self.assertIn("abcdef"[at], desk.told("one"))
        self.assertGreater(min(seen.values()), 10, seen)

    def test_finish_tells_each_key_that_stays(self):
        finished = 0
        for seed in range(40):
            rule = agreed_rule(seed, 8)
            booth = Booth(rule, 1)
            for at in range(20):
                booth.put("abcdefghijklmnopqrst"[at], at * 3 % 32)
            booth.enter("one")
            try:
                booth.finish("one")
            except ValueError:
                continue
            if booth.can_stop("one"):
                finished += 1
                self.same(booth.surely_told("one"), booth.names)
                self.same(list(booth.told("one")), booth.names)
        self.assertGreater(finished, 5)

    def test_a_listing_that_loses_keys(self):
        """A key that a move takes from where the listing comes to where it was is not told, and in doubt."""
        rule = Rule(3, {(1,): [(((0, 0),), 1), (((0, 1),), None), ((), None)],
                        (1, 0): [(tuple(places_of((1, 0))), 2)] * 3, (0,): [((), None)] * 3})
        booth = Booth(rule, 1)
        booth.put("a", 1)
        booth.enter("one")
        booth.step("one")
        booth.start(0)
        booth.move(2)
        self.same([booth.step("one"), booth.told("one"), booth.stayed("one"), booth.surely_told("one")],
                  [[], {}, ["a"], []])
        self.assertIn(1, booth.doubts_of("one"))
        self.same(missed_run(rule, full_road(rule.shapes), 1), [((0,), False)])
