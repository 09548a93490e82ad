"""Promises 2, 9 and 28: what is in doubt behind stories, witnesses and chains."""

import random

from seencursors.doubts import in_doubt
from seencursors.errors import InvalidHash, InvalidMarks, InvalidNumber, InvalidStory, Mismatch
from seencursors.marks import (
    doubts_behind, first_clear_story, is_story, is_story_chain, is_witness, next_sights, sights, story_chain, witness)
from seencursors.roads import Road, full_road
from seencursors.rules import Rule
from seencursors.runs import is_run, listed

from helpers import LARGE, NO_HASHES, NO_INTEGERS, ODD, TWELVE, Case, bent_lists, no_lists, places_of
from model import is_chain_of, long_worlds, some_calls, some_worlds
from seen import codes_in, first_of, is_witness_of, left_of, sights_of, stories

A, B, AB, BA, C = (0,), (1,), (0, 1), (1, 0), (2,)
RULE = Rule(2, {A: [(((0, 0),), 1), ((), None)], B: [(((0, 0),), 1), (((0, 1),), None)]})
ROAD = full_road([A, B])
ALL = list(range(32))
CODES = (0, 1, 2, 3, 5, 31)
SOME_MARKS = ([], [1], [5, 2], [0, 3, 31])
NO_MARKS = [None, (), (3,), [3, 3], [32], [True], [-1], list(range(9)), "3", 3, {3: True}, [[3]]]
NO_MOSTS = NO_INTEGERS + LARGE + [-1, 0, 4, 5]


def asked_worlds(seed, count, most=3, some=10, **given):
    """Tuples (world, marks, story, rows of walks) of some stories."""
    source = random.Random(seed)
    for world in some_worlds(seed, count, **given):
        for marks in SOME_MARKS:
            found = stories(world, marks, most)
            for story in source.sample(sorted(found), min(len(found), some)):
                yield world, marks, list(story), found[story]


def is_chain_by_words(world, marks, story, code, lists):
    numbers = [number for number, _ in story]
    cursors = ([0] + numbers)[:len(numbers)]

    def fits(index, shape):
        return story[index] in sights_of(world, shape, cursors[index], marks) and (
            code in left_of(world, shape, cursors[index]))
    return is_chain_of(world, numbers, fits, lists)


class WitnessTest(Case):

    def test_examples(self):
        self.same([doubts_behind(RULE, ROAD, [3], [(1, (True,))]), doubts_behind(RULE, ROAD, [3], [(1, (False,))])[:3],
                   doubts_behind(RULE, ROAD, [], [(1, ())])[:3]], [[], [1, 3, 5], [1, 3, 5]])
        self.same([witness(RULE, ROAD, [3], [(1, (False,))], 5), story_chain(RULE, ROAD, [3], [(1, (True,))], 5),
                   first_clear_story(RULE, ROAD, [3], 1)], [([(B, False)], [[False]]), [[]], [(1, (True,))]])

    def test_named(self):
        story = [(1, (False,))]
        self.same(doubts_behind(story=story, marks=[3], road=ROAD, rule=RULE)[:2], [1, 3])
        self.same(witness(code=5, story=story, marks=[3], road=ROAD, rule=RULE), ([(B, False)], [[False]]))
        self.same(is_witness(thing=([(B, False)], [[False]]), code=5, story=story, marks=[3], road=ROAD, rule=RULE), True)
        self.same(story_chain(code=4, story=story, marks=[3], road=ROAD, rule=RULE), [[]])
        self.same(is_story_chain(thing=[[]], code=4, story=story, marks=[3], road=ROAD, rule=RULE), True)
        self.same(first_clear_story(most=1, marks=[3], road=ROAD, rule=RULE), [(1, (True,))])

    def test_the_empty_story(self):
        rule = Rule(1, {B: [(((0, 0), (0, 1)), 0)]})
        for marks in ([], [3], [5, 2], [31, 0, 5, 13, 8, 2, 3, 16]):
            self.keeps(ALL, doubts_behind, rule, full_road([B]), marks, [])
            rows = [[] for _ in marks]
            for code in (0, 3, 31):
                self.same(self.fresh(witness, rule, full_road([B]), marks, [], code), ([], rows))
                self.same(story_chain(rule, full_road([B]), marks, [], code), None)
                for thing in ([], [[]], [[], []], None):
                    self.assertIs(is_story_chain(rule, full_road([B]), marks, [], code, thing), False)
                self.assertIs(is_witness(rule, full_road([B]), marks, [], code, ([], rows)), True)
                for thing in [([], rows + [[]]), ([], rows[1:]) if rows else ([], [False]), ([(B, False)], rows),
                              ((), rows), ([], tuple(rows)), [[], rows], ([],), ([], rows, []), (rows, rows, 0),
                              ([], [[False]] * len(marks) + [[]]), ([], [()] * len(marks) + [()]), ({}, rows)]:
                    self.assertIs(is_witness(rule, full_road([B]), marks, [], code, thing), False, thing)

    def test_against_the_words(self):
        seen = {True: 0, False: 0}
        for world, marks, story, rows in asked_worlds(241, 35, tells=(0.4, 0.6, 0.9)):
            asked = (world.rule, world.road, marks, story)
            codes = codes_in(rows)
            self.keeps(sorted(codes), doubts_behind, *asked)
            for code in CODES:
                seen[code in codes] += 1
                found, paper = self.fresh(witness, *asked, code), self.fresh(story_chain, *asked, code)
                self.same([found is None, paper is None], [code not in codes, code in codes])
                if found is not None:
                    self.assertIs(is_witness_of(world, marks, story, code, found), True)
                    self.assertIs(is_witness(*asked, code, found), True)
                    self.assertIs(is_run(world.rule, world.road, found[0]), True)
                    self.assertNotIn(True, listed(world.rule, world.road, found[0], code))
                    wide = [world.shapes] * (len(story) - 1) + [[]]
                    for thing in (wide, [[] for _ in story], [world.shapes] * len(story)):
                        self.assertIs(is_story_chain(*asked, code, thing), False)
                else:
                    self.assertIs(is_chain_by_words(world, marks, story, code, paper), True)
                    self.assertIs(is_story_chain(*asked, code, paper), True)
        self.assertGreater(min(seen.values()), 500, seen)

    def test_marks_and_other_hashes(self):
        """A mark that was told with two tables does not tell another key with its hash."""
        rule = Rule(1, {(0, 1): [(((0, 0), (1, 1)), 0)], B: [(((0, 0),), 0)]})
        moving, still = Road([(0, 1)], []), Road([B], [])
        self.same(doubts_behind(rule, moving, [2], [(0, (True,))]), ALL[::2])
        self.same(doubts_behind(rule, moving, [2], [(0, (False,))]), ALL[::2])
        self.same(witness(rule, moving, [2, 4], [(0, (True, False))], 2), ([((0, 1), True)], [[False], [True]]))
        self.same(witness(rule, moving, [2, 3], [(0, (False, True))], 3), None)
        self.same(doubts_behind(rule, still, [2], [(0, (True,))]), ALL[1::2])
        self.same(witness(rule, still, [2, 3], [(0, (True, False))], 3), ([(B, False)], [[False], [False]]))
        self.same(witness(rule, still, [2, 3], [(0, (True, False))], 2), None)
        self.same(story_chain(rule, still, [2, 3], [(0, (True, False))], 2), [[]])

    def test_near_a_witness(self):
        seen, source = {True: 0, False: 0}, random.Random(242)
        for world, marks, story, _ in asked_worlds(243, 30, some=6, tells=(0.3, 0.6)):
            for code in (1, 2, 5):
                found = witness(world.rule, world.road, marks, story, code)
                if found is None:
                    continue
                run, moves = found
                things = [found, (run[:-1], moves), (run + run[-1:], moves), (run, moves[1:]), (run, moves + moves[:1]),
                          (run, moves[::-1]), (run, moves + [[False] * len(run)])]
                for at, (shape, moved) in enumerate(run):
                    others = [(other, move) for other in world.shapes for move in (False, True)]
                    things += [(run[:at] + [step] + run[at + 1:], moves) for step in others]
                for index, row in enumerate(moves):
                    for at in range(len(row)):
                        turned = row[:at] + [not row[at]] + row[at + 1:]
                        things.append((run, moves[:index] + [turned] + moves[index + 1:]))
                    for other in (row[1:], row + [False], [], [not one for one in row]):
                        things.append((run, moves[:index] + [other] + moves[index + 1:]))
                for thing in things:
                    for about in (code, source.choice(ALL)):
                        wanted = is_witness_of(world, marks, story, about, thing)
                        seen[wanted] += 1
                        got = is_witness(world.rule, world.road, marks, story, about, thing)
                        self.assertIs(got, wanted, (thing, about))
        self.assertGreater(min(seen.values()), 500, seen)

    def test_things_that_are_no_witnesses(self):
        rule = Rule(2, {AB: [(((0, 0), (1, 1)), 1), (((1, 0),), None)], B: [((), 1), ((), 0)]})
        road, marks, story = full_road([AB, B]), [3, 2], [(1, (True, False)), (-1, (False, True))]
        run, moves = [(AB, True), (AB, False)], [[True, False], [True, True]]
        self.assertIs(is_witness(rule, road, marks, story, 4, (run, moves)), True)
        wrong = ODD + [
            [run, moves], (run,), (run, moves, 0), (moves, run), run, (tuple(run), moves), (run, tuple(moves)),
            (run, [tuple(row) for row in moves]), ([list(step) for step in run], moves),
            ([(shape, int(moved)) for shape, moved in run], moves), (run, [[int(one) for one in row] for row in moves]),
            (run, {0: moves[0], 1: moves[1]}), ({0: run[0]}, moves), (run, [moves]), ([run], moves), (run, moves[0]),
            (run, [[1, False], [True, True]]), (run, [[True, 0], [True, True]]), (run, [[True, None], [True, True]]),
            (run, [["", False], [True, True]]), (run[0], moves), (run, [[True, False], None]), (run, None), (None, moves),
            ([((False, True), True), (AB, False)], moves), ([((0, True), True), (AB, False)], moves)]
        for odd in ODD:
            wrong += [(odd, moves), (run, odd), (run, [odd, moves[1]]), (run, [moves[0], odd]),
                      ([odd, run[1]], moves), ([run[0], odd], moves)]
            if odd not in (False, True) or not isinstance(odd, bool):
                wrong += [([(AB, odd), run[1]], moves), (run, [[odd, False], moves[1]])]
        for thing in wrong:
            self.assertIs(is_witness(rule, road, marks, story, 4, thing), False, thing)

    def test_near_a_chain(self):
        seen = {True: 0, False: 0}
        for world, marks, story, _ in asked_worlds(244, 30, some=5, tells=(0.6, 0.9)):
            for code in (1, 3):
                paper = story_chain(world.rule, world.road, marks, story, code)
                if paper is None:
                    continue
                wide = [world.shapes for _ in story[1:]] + [[]]
                for thing in [paper, wide, *bent_lists(paper, world.shapes), *bent_lists(wide, world.shapes)]:
                    wanted = is_chain_by_words(world, marks, story, code, thing)
                    seen[wanted] += 1
                    got = is_story_chain(world.rule, world.road, marks, story, code, thing)
                    self.assertIs(got, wanted, thing)
        self.assertGreater(min(seen.values()), 500, seen)

    def test_chains_leave_out_shapes_that_do_not_fit_the_bools(self):
        rule = Rule(2, {B: [(((0, 0),), 1), ((), 1)], C: [(((0, 0), (0, 2)), 1), (tuple(places_of(C)), None)]})
        road = Road([B], [(B, C)])
        for told, lists in [((True, True), [[B], []]), ((True,), [[B], []])]:
            marks = [2, 4][:len(told)]
            story = [(1, told), (-1, (True,) * len(told))]
            for code in (2, 3):
                paper = story_chain(rule, road, marks, story, code)
                self.assertIs(is_story_chain(rule, road, marks, story, code, paper), True)
            self.assertIs(is_story_chain(rule, road, marks, story, 2, [[], []]), True)
            for thing, wanted in [(lists, True), ([[], []], False), ([[B, C], []], True), ([[C], []], False)]:
                self.assertIs(is_story_chain(rule, road, marks, story, 3, thing), wanted)

    def test_things_that_are_no_chains(self):
        rule = Rule(2, {A: [((), 1), ((), 0)], B: [((), 1), (((0, 0), (0, 1)), None)]})
        road, story, paper = Road([B], [(B, A)]), [(1, (False,)), (-1, (True,))], [[B], []]
        self.assertIs(is_story_chain(rule, road, [6], story, 3, story_chain(rule, road, [6], story, 3)), True)
        for thing in ODD + list(no_lists(paper)):
            self.assertIs(is_story_chain(rule, road, [6], story, 3, thing), False, thing)
        for thing in (paper, [[A, B], []]):
            self.assertIs(is_story_chain(rule, road, [6], story, 3, thing), True)

    def test_errors_in_their_order(self):
        told = [(1, (False,))]
        for function, rest in [(doubts_behind, []), (witness, [3]), (is_witness, [3, ([], [])]), (story_chain, [3]),
                               (is_story_chain, [3, [[]]])]:
            for road in (Road([A, C], []), Road([A], [(A, C)]), full_road([AB])):
                self.raises(Mismatch, function, RULE, road, [3], told, *rest)
                self.raises(Mismatch, function, RULE, road, None, None, *[None for _ in rest])
            for marks in NO_MARKS:
                self.raises(InvalidMarks, function, RULE, ROAD, marks, told, *rest)
                self.raises(InvalidMarks, function, RULE, ROAD, marks, None, *[None for _ in rest])
            for story in [thing for thing in ODD if thing != []] + [
                    [(1, ())], [(1, (0,))], [(1, [False])], [[1, (False,)]], [(0, (False,))], [(-1, (False,))],
                    told + told, tuple(told), [(1, (False, False))], [(True, (False,))]]:
                self.raises(InvalidStory, function, RULE, ROAD, [3], story, *rest)
                self.raises(InvalidStory, function, RULE, ROAD, [3], story, *[None for _ in rest])
            for code in NO_HASHES if rest else []:
                for story in ([], told):
                    self.raises(InvalidHash, function, RULE, ROAD, [3], story, code, *rest[1:])

    def test_eight_marks_many_cursors_and_long_stories(self):
        source, marks, road = random.Random(245), [31, 0, 5, 13, 8, 2, 3, 16], full_road(TWELVE)
        for tells in (0.02, 0.1, 0.4):
            calls = some_calls(source, 64, TWELVE, 0.0, tells)
            calls = {shape: [(listing, (at + 1 + (shape[0] > 3)) % 64) for at, (listing, _) in enumerate(row)]
                     for shape, row in calls.items()}
            rule, story, last = Rule(64, calls), [], ALL
            while len(story) < 200:
                shape, cursor = source.choice(TWELVE), story[-1][0] if story else 0
                story.append(source.choice(sights(rule, shape, cursor, marks)))
            for most in (1, 2, 10, 60, 200):
                doubts = doubts_behind(rule, road, marks, story[:most])
                self.assertLessEqual(set(doubts), set(last))
                last = doubts
                for code in (0, 3, 17, 31):
                    found, paper = [function(rule, road, marks, story[:most], code)
                                    for function in (witness, story_chain)]
                    self.same([found is None, paper is None], [code not in doubts, code in doubts])
                    check, thing = (is_witness, found) if found else (is_story_chain, paper)
                    self.assertIs(check(rule, road, marks, story[:most], code, thing), True)

    def test_in_turns(self):
        asked = list(asked_worlds(246, 4, most=2, some=5))
        fresh = {}
        for at, (world, marks, story, _) in enumerate(asked):
            rule, road = Rule(world.cursors, world.calls), Road(world.begin, world.changes)
            fresh[at] = [doubts_behind(rule, road, marks, story)] + [
                function(rule, road, marks, story, code) for function in (witness, story_chain) for code in (1, 3)]
        order = list(range(len(asked))) * 2
        random.Random(247).shuffle(order)
        for at in order:
            world, marks, story, _ = asked[at]
            got = [doubts_behind(world.rule, world.road, marks, story)] + [
                function(world.rule, world.road, marks, story, code)
                for function in (witness, story_chain) for code in (1, 3)]
            self.same(got, fresh[at])


class ClearStoryTest(Case):

    def test_against_the_words(self):
        seen = {}
        worlds = some_worlds(251, 120, tells=(0.6, 0.9)) + long_worlds(252, 10)
        for world in worlds:
            for marks in ([], [1], [3], [5, 2], [31, 30]):
                found = {story: codes_in(rows) for story, rows in stories(world, marks, 3).items()}
                for most in (1, 2, 3):
                    wanted = first_of({story: codes for story, codes in found.items() if len(story) <= most})
                    self.keeps(wanted, first_clear_story, world.rule, world.road, marks, most)
                seen[len(marks), len(wanted or [])] = seen.get((len(marks), len(wanted or [])), 0) + 1
        for marks in (0, 1, 2):
            for length in (0, 1, 2, 3):
                self.assertGreater(seen.get((marks, length), 0), 0, seen)

    def test_several_shortest(self):
        """False stands ahead of True, smaller numbers ahead of greater ones, and the first mark ahead of the second."""
        rule = Rule(12, {shape: [(tuple(places_of(shape)), number)] * 12 for shape, number in ((A, 11), (B, 2))})
        self.keeps([(2, (True, True))], first_clear_story, rule, ROAD, [1, 3], 3)
        self.keeps([(11, (True,))], first_clear_story, rule, Road([A], []), [1], 1)
        # Behind one call with these the table is known: both were told, or one, or none.
        halves = {B: [(((0, 0),), 1), (((0, 1),), 1)], AB: [((), 1), (tuple(places_of(AB)), 1)],
                  A: [(((0, 0),), 1), ((), 0)]}
        two = Rule(2, halves)
        self.keeps([(1, (False, False)), (1, (True, True))], first_clear_story, two, Road([AB], []), [2, 3], 2)
        self.keeps([(1, (True, True))], first_clear_story, two, full_road([A, B]), [2, 3], 2)
        self.keeps([(1, (False, True)), (1, (True, False))], first_clear_story, two, full_road([B]), [3, 2], 2)
        self.keeps(None, first_clear_story, two, full_road([B]), [3, 2], 1)
        self.keeps([(1, ()), (1, ())], first_clear_story, two, full_road([B]), [], 3)
        # By the number alone nothing is clear, as both shapes go on alike.
        self.keeps(None, first_clear_story, two, Road([A, B], []), [], 1)
        self.keeps([(1, (True,))], first_clear_story, two, Road([A, B], []), [5], 1)
        self.keeps(None, first_clear_story, two, Road([A, B], []), [4], 1)

    def test_most(self):
        rule = Rule(4, {B: [((), 1), ((), 2), (((0, 0), (0, 1)), 3), ((), None)]})
        wanted = [(1, (False,)), (2, (False,)), (3, (True,))]
        self.same([first_clear_story(rule, full_road([B]), [9], most) for most in (1, 2, 3)], [None, None, wanted])
        later = rule.with_call(B, 2, ((), 3))
        self.same([first_clear_story(later, full_road([B]), [9], most) for most in (1, 2, 3)], [None, None, None])

    def test_errors_in_their_order(self):
        for road in (Road([A, C], []), Road([A], [(A, C)]), full_road([AB])):
            for marks, most in (([3], 1), (None, None), ([3, 3], 0)):
                self.raises(Mismatch, first_clear_story, RULE, road, marks, most)
        for marks in NO_MARKS:
            for most in (1, 0, None, True):
                self.raises(InvalidMarks, first_clear_story, RULE, ROAD, marks, most)
        for most in NO_MOSTS:
            self.raises(InvalidNumber, first_clear_story, RULE, ROAD, [3], most)

    def test_greatest_rules_and_roads(self):
        source, shapes = random.Random(253), [(5, 4), (4, 5), (5,)]
        for tells in (0.2, 0.9, 0.99):
            rule, road = Rule(64, some_calls(source, 64, shapes, 0.02, tells)), full_road(shapes)
            for marks in ([], [9], [31, 9]):
                story = first_clear_story(rule, road, marks, 3)
                if story is None:
                    rows = [sight for sight in next_sights(rule, road, marks, [])]
                    self.assertNotIn([], [doubts_behind(rule, road, marks, [sight]) for sight in rows])
                else:
                    self.assertIs(is_story(rule, road, marks, story), True)
                    self.assertEqual(doubts_behind(rule, road, marks, story), [])

    def test_without_marks_as_first_clear(self):
        for world in some_worlds(254, 40, tells=(0.8,)):
            story = first_clear_story(world.rule, world.road, [], 3)
            if story is not None:
                self.assertEqual(in_doubt(world.rule, world.road, [number for number, _ in story]), [])
