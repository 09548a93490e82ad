"""Promises 2, 6 and 13: roads."""

from seencursors.errors import InvalidRoad, UnknownChange, UnknownShape
from seencursors.roads import Road, full_road

from helpers import ODD, SHAPES, TWELVE, Case
from model import some_worlds

A, AB, B = (0,), (0, 1), (1,)
CHANGES = [(AB, B), (A, AB)]
NO_SHAPES = [thing for thing in ODD if thing != A] + [
    (6,), (1, 1), (True,), (False,), (0, True), (0, 1, 2), [1], ("1",)]
NO_CHANGES = ODD + [
    (A,), (A, A), (AB, AB), (A, AB, B), [A, AB], (A, (True,)), ((False,), B), (A, (6,)), ((1, 1), A), (0, 1),
    ("0", "1"), (A, None), (A, [1]), ([0], B), ((A, B),), ((A, B), (B, A)), {A: B}]


class RoadsTest(Case):

    def test_examples(self):
        road = Road([(0,)], [((0,), (0, 1)), ((0, 1), (1,))])
        self.same(
            [road.shapes, road.behind((0, 1)), road.without([((0, 1), (1,))]).shapes,
             len(full_road([(0,), (1,), (2,)]).changes)],
            [[(0,), (0, 1), (1,)], [(0, 1), (1,)], [(0,), (0, 1)], 6])

    def test_named(self):
        road = Road(changes=CHANGES, begin=[A])
        self.same(road.behind(shape=A), [A, AB])
        self.same(road.without(changes=CHANGES).shapes, [A])
        self.same(road.with_change(change=(B, A)).behind(B), [A, B])
        self.same(full_road(shapes=[B, A]).begin, [A, B])

    def test_properties_are_ascending(self):
        road = Road([B, (3,), A], [(B, A), (AB, B), (A, AB), (AB, (5,)), (AB, A)])
        self.same(road.begin, [A, B, (3,)])
        self.same(road.changes, [(A, AB), (AB, A), (AB, B), (AB, (5,)), (B, A)])
        self.same(road.shapes, [A, AB, B, (3,), (5,)])
        self.same(road.behind(AB), [A, AB, B, (5,)])
        self.same(road.behind((5,)), [(5,)])
        self.same(road.behind((3,)), [(3,)])

    def test_behind_in_many_roads(self):
        for world in some_worlds(3, 60):
            self.same(world.road.begin, sorted(world.begin))
            self.same(world.road.changes, sorted(world.changes))
            self.same(world.road.shapes, world.shapes)
            for shape in world.shapes:
                self.keeps(world.after(shape), world.road.behind, shape)

    def test_all_shapes(self):
        for shape in SHAPES:
            road = Road([shape], [])
            self.same([road.begin, road.changes, road.shapes, road.behind(shape)], [[shape], [], [shape], [shape]])
            self.same(full_road([shape]), road)

    def test_wrong_begin(self):
        self.raises(InvalidRoad, Road, [], [])
        self.raises(InvalidRoad, Road, [], CHANGES)
        self.raises(InvalidRoad, Road, [A, A], [])
        self.raises(InvalidRoad, Road, [A, B, A], CHANGES)
        for thing in [thing for thing in ODD if thing != [A]] + [(A,), {A: B}, "0"]:
            self.raises(InvalidRoad, Road, thing, [])
            self.raises(InvalidRoad, Road, thing, None)
            self.raises(InvalidRoad, full_road, thing)
        for thing in NO_SHAPES:
            self.raises(InvalidRoad, Road, [thing], [])
            self.raises(InvalidRoad, Road, [A, thing], CHANGES)
            self.raises(InvalidRoad, full_road, [B, thing])
        self.raises(InvalidRoad, full_road, [])
        self.raises(InvalidRoad, full_road, [A, B, A])

    def test_wrong_changes(self):
        for thing in [thing for thing in ODD if thing != []] + [tuple(CHANGES), dict(CHANGES), (A, B)]:
            self.raises(InvalidRoad, Road, [A], thing)
        for thing in NO_CHANGES:
            self.raises(InvalidRoad, Road, [A], [thing])
            self.raises(InvalidRoad, Road, [A], [(A, AB), thing])
        self.raises(InvalidRoad, Road, [A], [(A, B), (A, B)])
        self.raises(InvalidRoad, Road, [A], [(A, B), (B, A), (A, B)])

    def test_objects_copy_their_arguments(self):
        begin, changes, shapes = [B, A], list(CHANGES), [B, A]
        road, full = Road(begin, changes), full_road(shapes)
        self.same([begin, changes, shapes], [[B, A], CHANGES, [B, A]])
        begin.append((2,))
        changes.clear()
        shapes.pop()
        self.same([road.begin, road.changes, road.shapes], [[A, B], sorted(CHANGES), [A, AB, B]])
        self.same([full.begin, full.changes], [[A, B], [(A, B), (B, A)]])

    def test_what_is_returned_is_new(self):
        road = Road([A], CHANGES)
        for rows in (road.begin, road.changes, road.shapes, road.behind(A)):
            rows.clear()
        self.same([road.begin, road.changes, road.shapes, road.behind(A)],
                  [[A], sorted(CHANGES), [A, AB, B], [A, AB]])

    def test_behind_raises(self):
        road = Road([A], CHANGES)
        for thing in NO_SHAPES + [(2,), (1, 0), (0, 2), (True,), (False, True)]:
            self.raises(UnknownShape, road.behind, thing)

    def test_without(self):
        road = Road([A], [(A, AB), (AB, B), (B, A)])
        for changes, wanted, shapes in [
                ([], [(A, AB), (AB, B), (B, A)], [A, AB, B]), ([(B, A)], [(A, AB), (AB, B)], [A, AB, B]),
                ([(B, A), (AB, B)], [(A, AB)], [A, AB]), ([(AB, B), (A, AB), (B, A)], [], [A]),
                ([(A, AB), (AB, B)], [(B, A)], [A, B])]:
            before = list(changes)
            other = road.without(changes)
            self.same(changes, before)
            self.same([other.begin, other.changes, other.shapes], [[A], wanted, shapes])
            for shape in [A, AB, B]:
                if shape not in shapes:
                    self.raises(UnknownShape, other.behind, shape)
        self.same([road.changes, road.shapes], [[(A, AB), (AB, B), (B, A)], [A, AB, B]])
        self.assertIsNot(road.without([]), road)
        self.assertEqual(road.without([]), road)

    def test_without_raises(self):
        road = Road([A], CHANGES)
        for thing in [thing for thing in ODD if thing != []] + [tuple(CHANGES), dict(CHANGES), (A, AB)]:
            self.raises(UnknownChange, road.without, thing)
        for thing in NO_CHANGES + [(A, B), (AB, A), (A, (0, True)), ((0, True), B)]:
            self.raises(UnknownChange, road.without, [thing])
            self.raises(UnknownChange, road.without, [(A, AB), thing])
        self.raises(UnknownChange, road.without, [(A, AB), (A, AB)])
        self.raises(UnknownChange, road.without, [(A, AB), (AB, B), (A, AB)])
        self.same(road.changes, sorted(CHANGES))

    def test_with_change(self):
        road = Road([A], CHANGES)
        other = road.with_change((B, (4, 5)))
        self.same([other.begin, other.changes, other.shapes],
                  [[A], [(A, AB), (AB, B), (B, (4, 5))], [A, AB, B, (4, 5)]])
        self.same([other.behind(B), other.behind((4, 5))], [[B, (4, 5)], [(4, 5)]])
        self.same(road.changes, sorted(CHANGES))
        self.assertEqual(other.without([(B, (4, 5))]), road)
        for thing in NO_CHANGES + CHANGES:
            self.raises(InvalidRoad, road.with_change, thing)

    def test_equal(self):
        road = Road([A, B], CHANGES)
        self.assertIs(road == Road([B, A], CHANGES[::-1]), True)
        self.assertIs(road == road, True)
        for other in [Road([A], CHANGES), Road([A, B], CHANGES[:1]), Road([A, B, AB], CHANGES), full_road([A, B])]:
            self.assertIs(road == other, False)
            self.assertIs(other == road, False)
            self.assertIs(road != other, True)
        for other in ODD + [([A, B], CHANGES), CHANGES]:
            self.assertIs(road == other, False)

    def test_full_road(self):
        self.same([full_road([A]).begin, full_road([A]).changes], [[A], []])
        self.same(full_road([AB, B, A]).changes, [(A, AB), (A, B), (AB, A), (AB, B), (B, A), (B, AB)])
        road = full_road(TWELVE)
        self.same([road.begin, road.shapes, len(road.changes)], [sorted(TWELVE), sorted(TWELVE), 132])
        for shape in TWELVE:
            self.same(road.behind(shape), sorted(TWELVE))
        self.same(full_road(TWELVE[::-1]).changes, sorted(
            (shape, other) for shape in TWELVE for other in TWELVE if shape != other))
