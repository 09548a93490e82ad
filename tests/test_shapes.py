"""Promises 4 and 11: shapes and places."""

from seencursors.errors import InvalidHash, InvalidMove, InvalidShape
from seencursors.shapes import is_place, is_shape, place_of, places

from helpers import LARGE, NO_INTEGERS, ODD, SHAPES, Case, moved_with, places_of

NO_SHAPES = [thing for thing in ODD if thing != (0,)] + [
    (6,), (-1,), (10 ** 39,), (1, 1), (0, 0), (1, 6), (6, 1), (-1, 0), (0, 1, 2), (0, 1, 0), (1, True), (True, 0),
    (False,), (0, False), (0, None), ("0",), ("0", "1"), (0, (1,)), ((0,), (1,)), [1], [0, 1], {0: 1}, ([1],), (1, [])]


class ShapesTest(Case):

    def test_examples(self):
        self.same(
            [places((1,)), places((1, 0)), place_of((1, 2), 7, False), place_of((1, 2), 7, True)],
            [[(0, 0), (0, 1)], [(0, 0), (0, 1), (1, 0)], (0, 1), (1, 3)])

    def test_all_shapes(self):
        self.assertEqual(len(SHAPES), 36)
        for shape in SHAPES:
            self.assertIs(is_shape(shape), True, shape)
        for one in range(-1, 8):
            self.assertIs(is_shape((one,)), (one,) in SHAPES)
            for two in range(-1, 8):
                self.assertIs(is_shape((one, two)), (one, two) in SHAPES)

    def test_no_shapes(self):
        for thing in NO_SHAPES:
            self.assertIs(is_shape(thing), False, thing)

    def test_places(self):
        for shape in SHAPES:
            self.keeps(places_of(shape), places, shape)
            self.assertEqual(len(places(shape)), sum(2 ** width for width in shape))
            self.assertEqual(places(shape), sorted(set(places(shape))))

    def test_is_place(self):
        for shape in SHAPES:
            wanted = places_of(shape)
            for table in range(-1, 4):
                for number in range(-1, 34):
                    self.assertIs(is_place(shape, (table, number)), (table, number) in wanted)

    def test_is_place_of_any_object(self):
        wrong = ODD + [
            (0, 0, 0), (False, 0), (0, False), (0, True), (True, 0), (True, True), [0, 0], (0, None), ("0", "0"),
            ((0, 0),), (0, (0,)), (0, [0]), "0.0", {0: 0}, (0, 10 ** 39), (10 ** 39, 0)]
        for thing in wrong:
            self.assertIs(is_place((1, 2), thing), False, thing)
            self.assertIs(is_place((5,), thing), False, thing)

    def test_place_of(self):
        for shape in SHAPES:
            for code in range(32):
                for moved in moved_with(shape):
                    width = shape[1] if moved else shape[0]
                    self.same(place_of(shape, code, moved), (1 if moved else 0, code % 2 ** width))

    def test_wrong_shapes(self):
        for thing in NO_SHAPES:
            self.raises(InvalidShape, places, thing)
            self.raises(InvalidShape, is_place, thing, (0, 0))
            self.raises(InvalidShape, place_of, thing, 0, False)
            self.raises(InvalidShape, place_of, thing, -1, None)

    def test_wrong_hashes(self):
        for thing in NO_INTEGERS + LARGE + [-1, 32]:
            self.raises(InvalidHash, place_of, (1,), thing, False)
            self.raises(InvalidHash, place_of, (1,), thing, True)
            self.raises(InvalidHash, place_of, (1, 0), thing, 1)

    def test_wrong_moved(self):
        for thing in [thing for thing in ODD if thing is not False]:
            self.raises(InvalidMove, place_of, (1,), 0, thing)
        for thing in [thing for thing in ODD if thing is not False and thing is not True]:
            self.raises(InvalidMove, place_of, (1, 0), 31, thing)

    def test_named(self):
        self.assertIs(is_shape(thing=(1,)), True)
        self.assertEqual(places(shape=(0,)), [(0, 0)])
        self.assertIs(is_place(thing=(0, 1), shape=(0,)), False)
        self.assertEqual(place_of(moved=True, code=6, shape=(0, 2)), (1, 2))
