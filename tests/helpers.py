"""What the tests share: odd objects, shapes, and exact errors and answers."""

import copy
import itertools
import unittest

from seencursors.errors import InvalidHash, Mismatch
from seencursors.roads import Road, full_road

WIDTHS = [0, 1, 2, 3, 4, 5]
SHAPES = sorted([(one,) for one in WIDTHS] + list(itertools.permutations(WIDTHS, 2)))
TWELVE = [(0,), (1,), (2,), (3,), (4,), (5,), (0, 1), (1, 0), (2, 5), (4, 3), (5, 1), (5, 4)]


def nested(depth):
    """A list and a tuple, nested as deep as that."""
    rows, pair = [], ()
    for _ in range(depth - 1):
        rows, pair = [rows], (pair,)
    return [rows, pair]


NO_INTEGERS = [
    None, True, False, "", "0", "a", "call\t0.0\nend", "x" * 5000, (), (0,), (None,), (True,), ((0,),), [], [0], [[]],
    {}, {"a": 1}, {0: [None]}, {(0,): ((),)}, {("a", (True, 1)): {}}, [0] * 4999, *nested(20)]
LARGE = [10 ** 40 - 1, -(10 ** 40 - 1), 2 ** 64]
ODD = NO_INTEGERS + LARGE + [-1, 0, 1, 5, 6, 31, 32]


NO_HASHES = NO_INTEGERS + LARGE + [-1, 32]
NO_NUMBERS = NO_INTEGERS + [-1, -(10 ** 40 - 1)]
# Dicts whose keys look like situations, but are none.
NO_SITUATIONS = [
    ((0,), False), ((0,), False, 0, 0), ((0,), 0, 0), ((0,), None, 0), ((0,), False, False), ((0,), False, -1),
    ((0,), False, 64), ((0,), False, None), ((0,), False, "0"), ((0,), True, 0), ((False,), False, 0), (0, False, 0),
    ("0", False, 0), ((), False, 0), ((0, 0), False, 0), ((6,), False, 0), (), (((0,), False, 0),), "", 0, None, True]


def lookalikes(situation):
    """Tuples that equal a situation, but are none, as bools stand for integers or integers for bools."""
    shape, moved, cursor = situation
    found = [(shape, int(moved), cursor)]
    if cursor in (0, 1):
        found.append((shape, moved, bool(cursor)))
    for index, width in enumerate(shape):
        if width in (0, 1):
            found.append((shape[:index] + (bool(width),) + shape[index + 1:], moved, cursor))
    return found


def bent(paper, keys, changed):
    """Dicts near a dict: a key left out, with changed worths, or put in with the worths of others.

    changed returns a list of other worths from a worth.
    """
    for key in paper:
        rest = {other: worth for other, worth in paper.items() if other != key}
        yield rest
        for worth in changed(paper[key]):
            yield {**paper, key: worth}
    for key in keys:
        if key not in paper:
            for worth in list(paper.values())[:3]:
                for other in [worth] + changed(worth):
                    yield {**paper, key: other}


def no_papers(paper):
    """Things near a dict from situations that are no such dict, whatever its worths."""
    yield from (list(paper.items()), list(paper), tuple(paper.items()), [paper], (paper,))
    for key, worth in list(paper.items())[:3]:
        rest = {other: part for other, part in paper.items() if other != key}
        for odd in lookalikes(key) + NO_SITUATIONS:
            yield {**rest, odd: worth}
            if odd not in paper:
                yield {**paper, odd: worth}


def bent_lists(paper, shapes):
    """Lists of lists of shapes near one: a shape put in, left out, twice, in another order, a list more or fewer."""
    for index, row in enumerate(paper):
        ahead, behind = paper[:index], paper[index + 1:]
        rows = [sorted(row + [shape]) for shape in shapes] + [row[:at] + row[at + 1:] for at in range(len(row))]
        rows += [row[::-1], [], row + row[-1:]]
        for other in rows:
            yield [*ahead, other, *behind]
        yield ahead + behind
        yield [*ahead, row, row, *behind]
        yield [*ahead, [], row, *behind]
    yield [*paper, []]


def no_lists(paper):
    """Things near a list of lists of shapes, the first (1,) alone, the last empty, that are no such list."""
    yield from (tuple(paper), [tuple(row) for row in paper], {0: paper}, paper + [[]], paper[1:], [paper], None)
    for index in range(len(paper)):
        for odd in ODD:
            if odd != [] or index == 0:
                yield [*paper[:index], odd, *paper[index + 1:]]
            yield [*paper[:index], paper[index] + [odd], *paper[index + 1:]]
    for odd in ((True,), [1], (1, 1), (4,), "1", 1, ((1,),), (1, False)):
        yield [[odd], *paper[1:]]
        yield [[(1,), odd], *paper[1:]]
        yield [[odd, (1,)], *paper[1:]]


def holders(thing):
    """All lists and dicts within a thing, itself among them, as often as they stand there."""
    within = [part for key, worth in thing.items() for part in (key, worth)] if isinstance(thing, dict) else thing
    if not isinstance(thing, (list, dict, tuple)):
        return []
    own = [] if isinstance(thing, tuple) else [thing]
    return own + [part for inner in within for part in holders(inner)]


class Case(unittest.TestCase):
    """A test case that asks for errors by their own class alone, and that arguments stay as they are."""

    def raises(self, error, function, *given, **named):
        before = copy.deepcopy((given, named))
        with self.assertRaises(Exception, msg=repr(given)[:200]) as caught:
            function(*given, **named)
        self.assertIs(type(caught.exception), error, repr((given, named))[:200])
        self.same((given, named), before)
        return caught.exception

    def errors_of_questions(self, function, rule, road, rest, more=()):
        """Mismatch comes first, then InvalidHash, then each of more: tuples (error, wrong things) for each of rest."""
        wrong = [(InvalidHash, NO_HASHES), *more]
        for other in (Road(road.begin + [(4, 3)], []), Road(road.begin, [(road.begin[0], (4, 3))]), full_road([(3,)])):
            self.raises(Mismatch, function, rule, other, 0, *rest)
            self.raises(Mismatch, function, rule, other, *[things[0] for _, things in wrong],
                        *rest[len(wrong) - 1:])
        given = [31, *rest]
        for index, (error, things) in enumerate(wrong):
            for thing in things:
                self.raises(error, function, rule, road, *given[:index], thing, *given[index + 1:])
                worse = [part[1][0] for part in wrong[index + 1:]]
                self.raises(error, function, rule, road, *given[:index], thing, *worse,
                            *given[index + 1 + len(worse):])

    def same(self, got, wanted):
        """Equal, with bools where bools are wanted, and dicts in the same order."""
        if repr(got) == repr(wanted):
            return
        self.assertEqual(got, wanted)
        if "object at" not in repr(wanted):
            self.assertEqual(repr(got), repr(wanted))

    def fresh(self, function, *given):
        """The answer, of which all lists and dicts are new and stand once, dicts ascending; the arguments stay."""
        before = copy.deepcopy(given)
        got, again = function(*given), function(*given)
        self.same(again, got)
        self.same(given, before)
        mine = holders(got) + holders(again)
        for part in mine:
            if isinstance(part, dict):
                self.assertEqual(list(part), sorted(part))
        self.assertEqual(len({id(part) for part in mine}), len(mine))
        self.assertFalse({id(part) for part in mine} & {id(part) for part in holders(given)})
        wanted = copy.deepcopy(got)
        for part in holders(got):
            part.clear()
        self.same(function(*given), wanted)
        return wanted

    def keeps(self, wanted, function, *given):
        """The answer is the one wanted, new each time, and the arguments stay."""
        before = copy.deepcopy(given)
        got, again = function(*given), function(*given)
        self.same(got, wanted)
        self.same(again, wanted)
        self.assertEqual(given, before)
        if isinstance(got, (list, dict)):
            self.assertIsNot(got, again)
            got.clear()
            self.same(function(*given), wanted)


def moved_with(shape):
    return [False, True] if len(shape) > 1 else [False]


def places_of(shape):
    return [(table, number) for table in range(len(shape)) for number in range(2 ** shape[table])]
