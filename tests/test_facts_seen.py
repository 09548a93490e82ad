"""Promise 9: what holds between clear traces, surprises, stories, plans and the functions of the stages before."""

import random

from seencursors.clear import doubt_book, first_clear, is_doubt_book
from seencursors.doubts import in_doubt
from seencursors.marks import (
    doubts_behind, first_clear_story, is_story, next_sights, shapes_behind, story_chain, witness)
from seencursors.missed import concerns, missed_run
from seencursors.plans import holdout, is_plan, plan
from seencursors.roads import Road
from seencursors.rules import Rule
from seencursors.smallest import pairs, smallest
from seencursors.stops import latest_stop
from seencursors.surprises import calm_set, surprise
from seencursors.traces import is_trace, nexts, trace_of

from helpers import Case
from model import World, long_worlds, some_calls, some_worlds
from seen import codes_in, courses, doubts_by_trace, stories, walks

SOME_MARKS = ([], [1], [5, 2], [0, 3, 31])


def worlds_of(seed, many=40):
    return some_worlds(seed, many, tells=(0.5, 0.8, 0.95)) + some_worlds(
        seed + 1, many, most_cursors=4, tells=(0.9,), ends=(0.2,)) + long_worlds(seed, many // 6, cursors=4)


def doubled(world, source):
    """A world that does the same with further cursors: each cursor stands there twice, and ways go to either."""
    many = world.cursors
    calls = {shape: [
        (row[cursor % many][0], None if row[cursor % many][1] is None
         else row[cursor % many][1] + many * source.randrange(2)) for cursor in range(2 * many)]
        for shape, row in world.calls.items()}
    return World(2 * many, calls, world.begin, world.changes)


class FactsTest(Case):

    def test_a_clear_trace_or_a_book(self):
        for world in worlds_of(301):
            for most in (1, 3, 5):
                trace = first_clear(world.rule, world.road, most)
                book = doubt_book(world.rule, world.road, most)
                self.assertIs(trace is None, book is not None)
                if trace is not None:
                    self.assertEqual(in_doubt(world.rule, world.road, trace), [])
                    self.same(first_clear(world.rule, world.road, 6), trace)
                    ahead = [list(row) for row in doubts_by_trace(world, most)
                             if (len(row), list(row)) < (len(trace), trace)]
                    self.assertNotIn([], [in_doubt(world.rule, world.road, row) for row in ahead])
                else:
                    for row, (code, run) in book.items():
                        self.assertIn(code, in_doubt(world.rule, world.road, list(row)))
                        self.same(trace_of(world.rule, world.road, run), list(row))

    def test_the_smallest_rule_tells_least(self):
        source, fewer = random.Random(303), {True: 0, False: 0}
        for start in worlds_of(303):
            for world in (start, doubled(start, source)):
                least = smallest(world.rule)
                name = {-1: -1, **{cursor: other for cursor, other in pairs(world.rule, least)}}
                for trace, codes in list(doubts_by_trace(world, 4).items())[:30]:
                    other = [name[number] for number in trace]
                    self.assertIs(is_trace(least, world.road, other), True)
                    self.assertLessEqual(codes, set(in_doubt(least, world.road, other)))
                one, two = [first_clear(rule, world.road, 5) for rule in (least, world.rule)]
                if one is not None:
                    self.assertIsNotNone(two)
                    self.assertLessEqual(len(two), len(one))
                    fewer[len(two) < len(one)] += 1
        self.assertGreater(fewer[False], 30, fewer)

    def test_two_runs_or_a_calm_set(self):
        for world in worlds_of(305):
            found, rows = surprise(world.rule, world.road), calm_set(world.rule, world.road)
            self.assertIs(found is None, rows is not None)
            if found is not None:
                one, two = [trace_of(world.rule, world.road, run) for run in found]
                self.assertEqual([one[:-1], one[-1]], [two[:-1], -1])
            for numbers in doubts_by_trace(world, 4):
                if numbers[-1] == -1 and found is None:
                    self.same(nexts(world.rule, world.road, list(numbers[:-1])), [-1])

    def test_stories_and_traces(self):
        """Behind a story no more is in doubt than behind its trace, and what is there is so behind some story."""
        for world in worlds_of(307, 20):
            traces = doubts_by_trace(world, 3)
            for marks in SOME_MARKS:
                behind = {}
                for story, rows in stories(world, marks, 3).items():
                    numbers = tuple(number for number, _ in story)
                    behind.setdefault(numbers, set()).update(codes_in(rows))
                self.assertEqual(behind, {trace: set(codes) for trace, codes in traces.items()})
            for trace, codes in list(traces.items())[:8]:
                rows = [[]]
                for number in trace:
                    rows = [row + [sight] for row in rows for sight in next_sights(world.rule, world.road, [1, 2], row)
                            if sight[0] == number]
                found = set()
                for row in rows:
                    doubts = doubts_behind(world.rule, world.road, [1, 2], row)
                    self.assertLessEqual(set(doubts), codes)
                    found.update(doubts)
                self.assertEqual(found, codes)

    def test_a_mark_left_out(self):
        source = random.Random(309)
        for world in worlds_of(309, 25):
            for marks in ([1], [5, 2], [0, 3, 31]):
                found = sorted(stories(world, marks, 3))
                for story in source.sample(found, min(len(found), 12)):
                    at = source.randrange(len(marks))
                    fewer = marks[:at] + marks[at + 1:]
                    less = [(number, told[:at] + told[at + 1:]) for number, told in story]
                    self.assertIs(is_story(world.rule, world.road, fewer, less), True)
                    self.assertLessEqual(set(doubts_behind(world.rule, world.road, marks, list(story))),
                                         set(doubts_behind(world.rule, world.road, fewer, less)))
                    self.assertLessEqual(set(shapes_behind(world.rule, world.road, marks, list(story))),
                                         set(shapes_behind(world.rule, world.road, fewer, less)))

    def test_a_witness_or_a_chain(self):
        for world in worlds_of(311, 15):
            for marks in SOME_MARKS:
                for story in list(stories(world, marks, 2))[:10]:
                    asked = (world.rule, world.road, marks, list(story))
                    doubts = doubts_behind(*asked)
                    for code in (0, 1, 2, 3, 31):
                        found = [witness(*asked, code) is not None, story_chain(*asked, code) is None]
                        self.same(found, [code in doubts] * 2)

    def test_plans_and_holdouts(self):
        source = random.Random(313)
        for start in worlds_of(313, 30):
            if start.cursors > 2:
                worlds = [start]
            else:
                worlds = [start, doubled(start, source)]
            for world in worlds:
                trees = [plan(world.rule, world.road, most) for most in (1, 2, 3)]
                papers = [holdout(world.rule, world.road, most) for most in (1, 2, 3)]
                self.same([tree is None for tree in trees], [paper is not None for paper in papers])
                for at, tree in enumerate(trees):
                    for most in range(at + 1, 4):
                        self.assertIs(is_plan(world.rule, world.road, most, tree), tree is not None)
                if all(missed_run(world.rule, world.road, code) is None for code in range(32)):
                    latest = latest_stop(world.rule, world.road)
                    if latest is not None and latest[0] <= 3:
                        self.assertIsNotNone(trees[latest[0] - 1])
                least = smallest(world.rule)
                for at, most in enumerate((1, 2, 3)):
                    if plan(least, world.road, most) is not None:
                        self.assertIsNotNone(trees[at])

    def test_a_plan_by_cursors_that_no_listing_comes_to(self):
        rule = Rule(2, {(1,): [(((0, 0),), 0), (((0, 1),), 0)]})
        road = Road([(1,)], [])
        self.assertIsNotNone(plan(rule, road, 2))
        self.assertIsNone(plan(smallest(rule), road, 3))

    def test_holdouts_against_courses(self):
        for world in worlds_of(315, 12):
            for most in (1, 2):
                paper = holdout(world.rule, world.road, most)
                for cursors, (answers, code, _) in (paper or {}).items():
                    self.assertIn(code, courses(world, cursors)[answers])

    def test_who_stops_and_sees_sights(self):
        """Behind a story of as many sights as the latest stop nothing is in doubt, or the listing has ended."""
        counted = 0
        for world in worlds_of(317, 60):
            latest = latest_stop(world.rule, world.road)
            if latest is None or latest[0] > 3:
                continue
            for marks in ([], [1], [5, 2]):
                rows = [[]]
                for _ in range(latest[0]):
                    rows = [row + [sight] for row in rows for sight in next_sights(world.rule, world.road, marks, row)]
                    rows = [row for row in rows if row[-1][0] != -1
                            and doubts_behind(world.rule, world.road, marks, row)]
                    counted += len(rows)
                self.assertEqual(rows, [])
            trace = trace_of(world.rule, world.road, latest[2])
            if len(trace) > 1:
                self.assertIn(latest[1], in_doubt(world.rule, world.road, trace[:-1]))
        self.assertGreater(counted, 50)

    def test_the_same_greatest_number_of_calls_with_marks(self):
        """By what is in doubt behind each story, one who stops makes as many calls with marks as without."""
        seen = {}
        for world in worlds_of(319, 40):
            latest = latest_stop(world.rule, world.road)
            if latest is None or latest[0] > 3:
                continue
            for marks in ([], [1], [3, 2]):
                on = [story for story, rows in stories(world, marks, latest[0]).items()
                      if story[-1][0] != -1 and codes_in(rows)]
                self.assertEqual(1 + max([len(story) for story in on], default=0), latest[0])
            seen[latest[0]] = seen.get(latest[0], 0) + 1
        self.assertGreater(len(seen), 2, seen)

    def test_forbidden_changes(self):
        source, found = random.Random(321), {"longer": 0, "shorter": 0}
        for world in worlds_of(321):
            if not world.changes:
                continue
            less = world.road.without(source.sample(world.changes, source.randint(1, len(world.changes))))
            small = World(world.cursors, {shape: world.calls[shape] for shape in less.shapes}, less.begin, less.changes)
            wide = doubts_by_trace(world, 4)
            for trace, codes in doubts_by_trace(small, 4).items():
                self.assertLessEqual(codes, wide[trace])
                self.same(in_doubt(world.rule, less, list(trace)), sorted(codes))
            one, two = first_clear(world.rule, less, 4), first_clear(world.rule, world.road, 4)
            lengths = [9 if trace is None else len(trace) for trace in (one, two)]
            found["longer"] += lengths[0] > lengths[1]
            found["shorter"] += lengths[0] < lengths[1]
            if calm_set(world.rule, world.road) is not None:
                self.assertIsNotNone(calm_set(world.rule, less))
            for most in (1, 2):
                if plan(world.rule, world.road, most) is not None and len(world.shapes) == len(less.shapes):
                    self.assertIsNotNone(plan(world.rule, less, most))
        self.assertGreater(min(found.values()), 0, found)

    def test_another_call_that_concerns_no_hash(self):
        source, changed = random.Random(323), 0
        for world in worlds_of(323, 25):
            shape, cursor = source.choice(world.shapes), source.randrange(world.cursors)
            other = world.rule.with_call(shape, cursor, some_calls(source, world.cursors, [shape])[shape][0])
            rows = walks(World(world.cursors, other.calls, world.begin, world.changes), 3)
            both = {numbers for _, _, numbers, _ in rows} & set(doubts_by_trace(world, 3))
            for code in range(0, 32, 3):
                if (shape, cursor) not in concerns(world.rule, world.road, code):
                    changed += other != world.rule
                    for trace in both:
                        self.assertIs(code in in_doubt(other, world.road, list(trace)),
                                      code in in_doubt(world.rule, world.road, list(trace)))
        self.assertGreater(changed, 30)

    def test_marks_help(self):
        """With marks one is clear at least as early, and now and then earlier."""
        earlier = 0
        for world in worlds_of(325):
            lengths = []
            for marks in ([], [1], [1, 2]):
                story = first_clear_story(world.rule, world.road, marks, 3)
                lengths.append(9 if story is None else len(story))
            self.assertEqual(lengths, sorted(lengths, reverse=True))
            earlier += lengths[2] < lengths[0]
            trace = first_clear(world.rule, world.road, 3)
            self.assertEqual(lengths[0], 9 if trace is None else len(trace))
        self.assertGreater(earlier, 3)

    def test_papers_of_other_rules_and_roads(self):
        """A book of one world is a book of another one only if it has its traces and runs."""
        worlds = worlds_of(327, 12)
        for world, other in zip(worlds, worlds[1:]):
            book = doubt_book(world.rule, world.road, 2)
            if book is None or world.shapes == other.shapes:
                continue
            traces = doubts_by_trace(other, 2)
            if set(book) != set(traces):
                self.assertIs(is_doubt_book(other.rule, other.road, 2, book), False)
