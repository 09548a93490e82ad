"""Promises 2, 9 and 27: marks, sights and stories."""

import itertools
import random

from seencursors.errors import InvalidMarks, InvalidStory, Mismatch, UnknownCursor, UnknownShape
from seencursors.marks import is_story, next_sights, shapes_behind, sights
from seencursors.roads import Road, full_road
from seencursors.rules import Rule
from seencursors.traces import is_trace, nexts, shapes_at

from helpers import LARGE, NO_HASHES, NO_INTEGERS, ODD, TWELVE, Case, places_of
from model import some_calls, some_worlds
from seen import sights_of, stories

A, B, AB, C = (0,), (1,), (0, 1), (2,)
RULE = Rule(2, {A: [(((0, 0),), 1), ((), None)], B: [(((0, 0),), 1), (((0, 1),), None)]})
ROAD = full_road([A, B])
EIGHT = [31, 0, 5, 13, 8, 2, 3, 16]
NO_MARKS = [thing for thing in ODD if thing not in ([], [0])] + [
    EIGHT + [1], list(range(9)), [3, 3], [0, 1, 0], (3,), (), {3: True}, [[3]], [(3,)], [True], [False], ["3"], [3, None],
    [3, True], [1, -1], [32], [0, 32]] + [[0, code] for code in NO_HASHES]
SOME_MARKS = ([], [1], [5, 2], [3, 1], [0, 4, 31])


class SightsTest(Case):

    def test_examples(self):
        self.same([sights(RULE, B, 0, [3, 4]), next_sights(RULE, ROAD, [3], []),
                   is_story(RULE, ROAD, [3], [(1, (False,)), (-1, (True,))])],
                  [[(1, (False, True))], [(1, (False,)), (1, (True,))], True])

    def test_named(self):
        self.same(sights(marks=[3, 4], cursor=0, shape=B, rule=RULE), [(1, (False, True))])
        self.same(is_story(thing=[(1, (False,))], marks=[3], road=ROAD, rule=RULE), True)
        self.same(shapes_behind(story=[(1, (False,))], marks=[3], road=ROAD, rule=RULE), [B])
        self.same(next_sights(story=[(1, (False,))], marks=[3], road=ROAD, rule=RULE),
                  [(-1, (False,)), (-1, (True,))])

    def test_sights_with_one_table(self):
        rule = Rule(3, {C: [(((0, 1), (0, 3)), 2), ((), None), (tuple(places_of(C)), 0)]})
        self.keeps([(2, ())], sights, rule, C, 0, [])
        self.keeps([(-1, ())], sights, rule, C, 1, [])
        # Marks with the same bucket are told alike, in their own order.
        self.keeps([(2, (True, False, True, True))], sights, rule, C, 0, [5, 2, 9, 31])
        self.keeps([(2, (False, True, True, True))], sights, rule, C, 0, [2, 5, 9, 31])
        self.keeps([(-1, (False,) * 8)], sights, rule, C, 1, EIGHT)
        self.keeps([(0, (True,) * 8)], sights, rule, C, 2, EIGHT)

    def test_sights_with_two_tables(self):
        rule = Rule(1, {(1, 2): [(((0, 1), (1, 1)), None)], (2, 1): [(((0, 1), (1, 1)), 0)]})
        # Told for moved False alone, for both, for none, for moved True alone.
        self.keeps([(-1, (False,)), (-1, (True,))], sights, rule, (1, 2), 0, [3])
        self.keeps([(-1, (True,))], sights, rule, (1, 2), 0, [5])
        self.keeps([(-1, (False,))], sights, rule, (1, 2), 0, [4])
        self.keeps([(0, (False,)), (0, (True,))], sights, rule, (2, 1), 0, [7])
        # Each key is moved by itself, also with the same hash's bucket.
        self.keeps([(-1, told) for told in itertools.product([False, True], repeat=2)], sights, rule, (1, 2), 0, [3, 7])
        self.keeps([(-1, (one, True, False, two)) for one in (False, True) for two in (False, True)],
                   sights, rule, (1, 2), 0, [3, 5, 4, 7])
        eight = [3, 7, 11, 15, 19, 23, 27, 31]
        self.keeps([(-1, told) for told in itertools.product([False, True], repeat=8)], sights, rule, (1, 2), 0, eight)

    def test_sights_against_the_words(self):
        for world in some_worlds(231, 80, most_shapes=4, tells=(0.3, 0.5, 0.9)):
            for shape in world.shapes:
                for cursor in range(world.cursors):
                    for marks in (*SOME_MARKS, EIGHT):
                        self.keeps(sorted(sights_of(world, shape, cursor, marks)), sights, world.rule, shape, cursor,
                                   marks)

    def test_sights_errors_in_their_order(self):
        for shape in ODD + [(2,), (0, 1), (1, 1), (True,), (False,), [0], (6,), ((0,),)]:
            if shape != A:
                self.raises(UnknownShape, sights, RULE, shape, 0, [3])
                self.raises(UnknownShape, sights, RULE, shape, 9, None)
        for cursor in NO_INTEGERS + LARGE + [-1, 2, 64]:
            self.raises(UnknownCursor, sights, RULE, A, cursor, [3])
            self.raises(UnknownCursor, sights, RULE, B, cursor, [3, 3])
        for marks in NO_MARKS:
            self.raises(InvalidMarks, sights, RULE, A, 0, marks)


class StoryTest(Case):

    def test_the_empty_story(self):
        for world in some_worlds(232, 40):
            for marks in SOME_MARKS:
                self.assertIs(is_story(world.rule, world.road, marks, []), True)
                self.keeps(sorted(world.begin), shapes_behind, world.rule, world.road, marks, [])
                wanted = {sight for shape in world.begin for sight in sights_of(world, shape, 0, marks)}
                self.keeps(sorted(wanted), next_sights, world.rule, world.road, marks, [])

    def test_against_the_words(self):
        source, seen = random.Random(233), {"stories": 0, "ended": 0, "others": 0}
        for world in some_worlds(234, 40, tells=(0.3, 0.6, 0.9)):
            for marks in SOME_MARKS:
                found = stories(world, marks, 3)
                behind = {}
                for story in found:
                    behind.setdefault(story[:-1], set()).add(story[-1])
                for story in source.sample(sorted(found), min(len(found), 25)):
                    seen["stories"] += 1
                    asked = (world.rule, world.road, marks, list(story))
                    self.assertIs(is_story(*asked), True)
                    self.keeps(sorted({row[0][-1] for row in found[story]}), shapes_behind, *asked)
                    if len(story) < 3:
                        self.keeps(sorted(behind.get(story, [])), next_sights, *asked)
                    if story[-1][0] == -1:
                        seen["ended"] += 1
                        self.keeps([], next_sights, *asked)
                    for other in self.near(source, world, story):
                        wanted = other == () or other in found
                        seen["others"] += not wanted
                        self.assertIs(is_story(world.rule, world.road, marks, list(other)), wanted, other)
                        if not wanted:
                            self.raises(InvalidStory, shapes_behind, world.rule, world.road, marks, list(other))
                            self.raises(InvalidStory, next_sights, world.rule, world.road, marks, list(other))
        self.assertGreater(min(seen.values()), 100, seen)

    def near(self, source, world, story):
        """Stories near one of at most three sights: a sight more, left out, with another number, a bool turned."""
        at = source.randrange(len(story))
        number, told = story[at]
        yield from (story[:-1], story[1:], story[:at] + story[at + 1:], story[::-1])
        if len(story) < 3:
            yield story[:at] + (story[at],) + story[at:]
            yield story + (story[at],)
        for other in range(-1, world.cursors):
            yield story[:at] + ((other, told),) + story[at + 1:]
        for index in range(len(told)):
            turned = told[:index] + (not told[index],) + told[index + 1:]
            yield story[:at] + ((number, turned),) + story[at + 1:]

    def test_stories_without_marks_are_traces(self):
        for world in some_worlds(235, 60):
            for story in list(stories(world, [], 3))[:20]:
                trace = [number for number, _ in story]
                self.assertIs(is_trace(world.rule, world.road, trace), True)
                self.same(shapes_behind(world.rule, world.road, [], list(story)),
                          shapes_at(world.rule, world.road, trace))
                self.same(next_sights(world.rule, world.road, [], list(story)),
                          [(number, ()) for number in nexts(world.rule, world.road, trace)])

    def test_things_that_are_no_stories(self):
        rule = Rule(3, {A: [((), 1), ((), 0), ((), 0)], AB: [(((0, 0),), 1), (((1, 0), (1, 1)), None), ((), 0)]})
        road, marks = full_road([A, AB]), [3, 1]
        story = [(1, (False, True)), (-1, (False, True))]
        self.assertIs(is_story(rule, road, marks, story), True)
        wrong = [thing for thing in ODD if thing != []] + [
            tuple(story), [story], {0: story[0]}, [*story, (0, (False, False))], story[1:], [[1, (False, True)]],
            [(1, [False, True])], [(1, (False, True), 0)], [(1,)], [1], [-1], [(True, (False, True))],
            [(1, (0, 1))], [(1, (0, True))], [(1, (False, 1))], [(1, (False, None))], [(1, (False,))], [(1, ())], [(1, None)],
            [(1, (False, True, True))], [(2, (False, True))], [(3, (False, True))], [(-2, (False, True))],
            [(None, (False, True))], [("1", (False, True))], [((False, True), 1)], [(1, ((False, True),))],
            [(1, {False: True})], [(64, (False, True))], [(1, "01")], story + [[]], story + [None], [*story, *story],
            [(3, (False, True)), story[1]], [(-2, (False, True)), story[1]], [story[1], story[0]],
            [story[0], [-1, (False, True)]], [story[0], (-1, [False, True])], [story[0], (-1, (False,))]]
        for number, told in story:
            wrong += [[(odd, told)] for odd in NO_INTEGERS] + [[(number, odd)] for odd in ODD]
        for thing in wrong:
            self.assertIs(is_story(rule, road, marks, thing), False, thing)
            self.raises(InvalidStory, shapes_behind, rule, road, marks, thing)
            self.raises(InvalidStory, next_sights, rule, road, marks, thing)
        self.assertIs(is_story(rule, road, [3], story), False)
        self.assertIs(is_story(rule, road, [3, 1, 2], story), False)
        self.assertIs(is_story(rule, road, [], [(1, ()), (-1, ())]), True)

    def test_bools_count_by_shape(self):
        """One shape at each call has to fit the bools of all marks."""
        rule = Rule(2, {B: [(((0, 0),), 1), ((), 1)], C: [(((0, 0), (0, 3)), 1), ((), 0)]})
        road = Road([B, C], [(B, C)])
        for told, shapes in [((True, True, False), [B]), ((True, False, True), [C]), ((True, False, False), []),
                             ((True, True, True), []), ((False, True, False), [])]:
            story = [(1, told)]
            self.assertIs(is_story(rule, road, [4, 2, 3], story), bool(shapes))
            if shapes:
                self.same(shapes_behind(rule, road, [4, 2, 3], story), shapes)
        none = (False,) * 3
        for story, shapes in [
                ([(1, (True, True, False)), (1, none)], [B]), ([(1, (True, True, False)), (0, none)], [C]),
                ([(1, (True, False, True)), (0, none)], [C])]:
            self.same(shapes_behind(rule, road, [4, 2, 3], story), shapes)
        self.assertIs(is_story(rule, road, [4, 2, 3], [(1, (True, False, True)), (1, none)]), False)

    def test_errors_in_their_order(self):
        for function in (is_story, shapes_behind, next_sights):
            for road in (Road([A, C], []), Road([A], [(A, C)]), full_road([AB])):
                self.raises(Mismatch, function, RULE, road, [3], [])
                self.raises(Mismatch, function, RULE, road, [3, 3], None)
            for marks in NO_MARKS:
                self.raises(InvalidMarks, function, RULE, ROAD, marks, [])
                self.raises(InvalidMarks, function, RULE, ROAD, marks, None)

    def test_eight_marks_many_cursors_and_long_stories(self):
        source = random.Random(236)
        for tells in (0.1, 0.5, 0.9):
            calls = some_calls(source, 64, TWELVE, 0.0, tells)
            calls = {shape: [(listing, (at + 1 + (shape[0] > 3)) % 64) for at, (listing, _) in enumerate(row)]
                     for shape, row in calls.items()}
            rule, road, story = Rule(64, calls), full_road(TWELVE), []
            for many in range(200):
                if many in (0, 1, 50, 199):
                    rows = next_sights(rule, road, EIGHT, story)
                    self.assertEqual(rows, sorted(set(rows)))
                shape, cursor = source.choice(TWELVE), story[-1][0] if story else 0
                story.append(source.choice(sights(rule, shape, cursor, EIGHT)))
                if many in (0, 1, 50, 199):
                    self.assertIn(story[-1], rows)
                    self.assertIn(shape, shapes_behind(rule, road, EIGHT, story))
            self.assertIs(is_story(rule, road, EIGHT, story), True)
            self.assertIs(is_story(rule, road, EIGHT, story[:-1] + [(story[-1][0], story[-1][1][:-1])]), False)

    def test_in_turns(self):
        worlds = some_worlds(237, 3)
        asked = [(world, marks, list(story)) for world in worlds for marks in SOME_MARKS
                 for story in list(stories(world, marks, 2))[:8]]
        fresh = {}
        for at, (world, marks, story) in enumerate(asked):
            rule, road = Rule(world.cursors, world.calls), Road(world.begin, world.changes)
            fresh[at] = [function(rule, road, marks, story) for function in (shapes_behind, next_sights)]
        order = list(range(len(asked))) * 2
        random.Random(238).shuffle(order)
        for at in order:
            world, marks, story = asked[at]
            self.same([function(world.rule, world.road, marks, story) for function in (shapes_behind, next_sights)],
                      fresh[at])
