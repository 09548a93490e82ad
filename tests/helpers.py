"""What the tests share: odd objects, shapes, and exact errors and answers."""

import copy
import itertools
import unittest

WIDTHS = [0, 1, 2, 3, 4, 5]
SHAPES = sorted([(one,) for one in WIDTHS] + list(itertools.permutations(WIDTHS, 2)))
TWELVE = [(0,), (1,), (2,), (3,), (4,), (5,), (0, 1), (1, 0), (2, 5), (4, 3), (5, 1), (5, 4)]


def nested(depth):
    """A list and a tuple, nested as deep as that."""
    rows, pair = [], ()
    for _ in range(depth - 1):
        rows, pair = [rows], (pair,)
    return [rows, pair]


NO_INTEGERS = [
    None, True, False, "", "0", "a", "call\t0.0\nend", "x" * 5000, (), (0,), (None,), (True,), ((0,),), [], [0], [[]],
    {}, {"a": 1}, {0: [None]}, {(0,): ((),)}, {("a", (True, 1)): {}}, [0] * 4999, *nested(20)]
LARGE = [10 ** 40 - 1, -(10 ** 40 - 1), 2 ** 64]
ODD = NO_INTEGERS + LARGE + [-1, 0, 1, 5, 6, 31, 32]


class Case(unittest.TestCase):
    """A test case that asks for errors by their own class alone, and that arguments stay as they are."""

    def raises(self, error, function, *given, **named):
        before = copy.deepcopy((given, named))
        with self.assertRaises(Exception, msg=repr(given)[:200]) as caught:
            function(*given, **named)
        self.assertIs(type(caught.exception), error, repr((given, named))[:200])
        self.same((given, named), before)
        return caught.exception

    def same(self, got, wanted):
        """Equal, with bools where bools are wanted, and dicts in the same order."""
        if repr(got) == repr(wanted):
            return
        self.assertEqual(got, wanted)
        if "object at" not in repr(wanted):
            self.assertEqual(repr(got), repr(wanted))

    def keeps(self, wanted, function, *given):
        """The answer is the one wanted, new each time, and the arguments stay."""
        before = copy.deepcopy(given)
        got, again = function(*given), function(*given)
        self.same(got, wanted)
        self.same(again, wanted)
        self.assertEqual(given, before)
        if isinstance(got, (list, dict)):
            self.assertIsNot(got, again)
            got.clear()
            self.same(function(*given), wanted)


def moved_with(shape):
    return [False, True] if len(shape) > 1 else [False]


def places_of(shape):
    return [(table, number) for table in range(len(shape)) for number in range(2 ** shape[table])]
