"""Promises 2, 3, 4 and 32: tables."""

import random

from seencursors.errors import (
    DuplicateName, InvalidHash, InvalidName, InvalidNumber, InvalidPlace, InvalidWidth, Moving, UnknownName)
from seencursors.tables import Table

from helpers import LARGE, NO_HASHES, NO_INTEGERS, ODD, Case, places_of
from slow import NAMES, NO_NAMES, SlowTable, table_call

NO_WIDTHS = NO_INTEGERS + LARGE + [-1, 6]


class TablesTest(Case):

    def beside(self, table, slow):
        """All that a table tells, beside what the test keeps by itself."""
        self.same([table.shape, table.names, table.moved], [slow.shape, sorted(slow.keys), slow.moved])
        for name, (code, _) in slow.keys.items():
            self.same([table.code_of(name), table.is_moved(name)], [code, slow.is_moved(name)])
        for place in places_of(slow.shape):
            self.same(table.at(place), slow.at(place))

    def test_examples(self):
        table = Table(1)
        self.same([table.put('a', 6), table.put('b', 3), table.start(2), table.move(1), table.put('c', 1)], [None] * 5)
        self.same([table.shape, table.at((0, 1)), table.at((1, 2)), table.is_moved('c'), table.moved],
                  [(1, 2), ['b'], ['a'], True, 1])
        self.same([table.move(1), table.shape, table.at((0, 3)), table.is_moved('b')], [None, (2,), ['b'], False])

    def test_named(self):
        table = Table(width=1)
        self.same([table.put(code=6, name="a"), table.put(name="b", code=3), table.drop(name="b"),
                   table.start(width=2), table.move(count=1)], [None] * 5)
        self.same([table.code_of(name="a"), table.is_moved(name="a"), table.at(place=(1, 2))], [6, True, ["a"]])

    def test_long_rows_of_calls(self):
        for seed in range(40):
            source = random.Random(seed)
            width = source.randrange(6)
            table, slow = Table(width), SlowTable(width)
            for _ in range(60):
                kind, given = table_call(source, slow)
                getattr(slow, kind)(*given)
                self.same(getattr(table, kind)(*given), None)
                self.beside(table, slow)

    def test_each_width_to_each_other(self):
        codes = dict(zip(NAMES, (0, 31, 5, 16, 12, 7, 22)))
        for width in range(6):
            for other in range(6):
                if width == other:
                    continue
                for count in sorted({1, 2, 2 ** width}):
                    table, slow = Table(width), SlowTable(width)
                    for name in NAMES[:-1]:
                        table.put(name, codes[name])
                        slow.put(name, codes[name])
                    table.start(other)
                    slow.start(other)
                    self.beside(table, slow)
                    while slow.left():
                        if slow.moved and NAMES[-1] not in slow.keys:
                            table.put(NAMES[-1], codes[NAMES[-1]])
                            slow.put(NAMES[-1], codes[NAMES[-1]])
                        many = min(count, slow.left())
                        self.raises(InvalidNumber, table.move, slow.left() + 1)
                        table.move(many)
                        slow.move(many)
                        self.beside(table, slow)
                    self.same([table.shape, table.moved], [(other,), 0])

    def test_keys_put_while_it_moves(self):
        table = Table(1)
        table.put("old", 1)
        table.start(0)
        for name, code in (("a", 0), ("b", 1), ("c", 31)):
            table.put(name, code)
            self.assertIs(table.is_moved(name), True)
        self.same([table.is_moved("old"), table.at((1, 0)), table.at((0, 1)), table.at((0, 0))],
                  [False, ["a", "b", "c"], ["old"], []])
        # Out and in again, it is put into table 1; another one with its hash stays where it is.
        table.put("twin", 1)
        table.drop("old")
        table.put("old", 1)
        self.assertIs(table.is_moved("old"), True)
        table.move(2)
        self.same([table.shape, table.moved, [table.is_moved(name) for name in table.names]], [(0,), 0, [False] * 5])
        # What was put while it moved before is in table 0 now, until its bucket is moved.
        table.start(3)
        self.same([table.is_moved(name) for name in table.names], [False] * 5)
        table.put("later", 8)
        self.same([table.is_moved("later"), table.at((1, 0)), table.at((0, 0))],
                  [True, ["later"], ["a", "b", "c", "old", "twin"]])
        table.move(1)
        self.same([table.shape, table.at((0, 0)), table.at((0, 1)), table.at((0, 7))],
                  [(3,), ["a", "later"], ["b", "old", "twin"], ["c"]])

    def test_hashes_and_widths_at_both_ends(self):
        for width in range(6):
            table = Table(width)
            for name, code in (("least", 0), ("most", 31)):
                table.put(name, code)
                self.same(table.code_of(name), code)
            self.same(table.at((0, 0)), ["least"] if width else ["least", "most"])
            self.same(table.at((0, 2 ** width - 1)), ["most"] if width else ["least", "most"])
        for name in ("a", "z", "aaaaaaaa", "zzzzzzzz"):
            table.put(name, 3)
        self.same(table.names, ["a", "aaaaaaaa", "least", "most", "z", "zzzzzzzz"])

    def test_errors_of_widths(self):
        for width in NO_WIDTHS:
            self.raises(InvalidWidth, Table, width)
            self.raises(InvalidWidth, Table(0).start, width)
            moving = Table(1)
            moving.start(2)
            self.raises(InvalidWidth, moving.start, width)
        for width in range(6):
            table = Table(width)
            self.raises(InvalidWidth, table.start, width)
            other = (width + 1) % 6
            table.start(other)
            for later in range(6):
                self.raises(Moving, table.start, later)
            self.same([table.shape, table.moved], [(width, other), 0])

    def test_errors_of_names_and_hashes(self):
        table = Table(2)
        table.put("a", 5)
        table.start(1)
        for name in NO_NAMES:
            for code in (3, 32, None):
                self.raises(InvalidName, table.put, name, code)
            for function in (table.drop, table.code_of, table.is_moved):
                self.raises(UnknownName, function, name)
        for code in (3, 32, None, [], True):
            self.raises(DuplicateName, table.put, "a", code)
        for code in NO_HASHES:
            self.raises(InvalidHash, table.put, "b", code)
        for function in (table.drop, table.code_of, table.is_moved):
            self.raises(UnknownName, function, "b")
        self.same([table.names, table.shape, table.at((0, 1))], [["a"], (2, 1), ["a"]])
        table.drop("a")
        for function in (table.drop, table.code_of, table.is_moved):
            self.raises(UnknownName, function, "a")
        table.put("a", 0)
        self.same([table.names, table.code_of("a")], [["a"], 0])

    def test_errors_of_counts(self):
        for count in ODD:
            self.raises(InvalidNumber, Table(3).move, count)
        table = Table(2)
        table.start(0)
        for count in NO_INTEGERS + LARGE + [-1, 0, 5, 31]:
            self.raises(InvalidNumber, table.move, count)
        table.move(3)
        for count in (0, 2, 3, 4, True):
            self.raises(InvalidNumber, table.move, count)
        self.same([table.shape, table.moved], [(2, 0), 3])
        table.move(1)
        for count in (0, 1, 2):
            self.raises(InvalidNumber, table.move, count)

    def test_errors_of_places(self):
        for shape in ((0,), (3,), (5,), (2, 0), (0, 5)):
            table = Table(shape[0])
            if len(shape) == 2:
                table.start(shape[1])
            wrong = ODD + [(0, 2 ** shape[0]), (len(shape), 0), (-1, 0), (0, -1), (False, 0), (0, False), (0, 0, 0),
                           [0, 0], ("0", 0), (0, "0"), (0, None), ((0, 0),), (2, 0)]
            for place in wrong:
                self.raises(InvalidPlace, table.at, place)
            for place in places_of(shape):
                self.same(table.at(place), [])
            if len(shape) == 2:
                table.move(2 ** shape[0])
                self.raises(InvalidPlace, table.at, (1, 0))

    def test_copies(self):
        for seed in range(15):
            source = random.Random(seed)
            rows = [(Table(seed % 6), SlowTable(seed % 6))]
            for _ in range(60):
                table, slow = source.choice(rows)
                kind, given = table_call(source, slow)
                getattr(slow, kind)(*given)
                getattr(table, kind)(*given)
                if source.random() < 0.1:
                    other = SlowTable(0)
                    other.shape, other.moved = slow.shape, slow.moved
                    other.keys = {name: list(key) for name, key in slow.keys.items()}
                    rows.append((table.copy(), other))
                    self.assertIsInstance(rows[-1][0], Table)
            for table, slow in rows:
                self.beside(table, slow)

    def test_lists_are_new(self):
        table = Table(0)
        for name in ("b", "a"):
            table.put(name, 7)
        for ask in (lambda: table.names, lambda: table.at((0, 0))):
            got = ask()
            self.same(got, ["a", "b"])
            got.clear()
            self.same(ask(), ["a", "b"])

    def test_many_keys(self):
        table, slow = Table(5), SlowTable(5)
        letters = "abcdefghijklmnopqrstuvwxyz"
        names = [one + two + three for one in letters[:5] for two in letters for three in letters]
        for at, name in enumerate(names):
            if at == 1500:
                table.start(4)
                slow.start(4)
            if at in (1800, 2100, 2500):
                table.move(8)
                slow.move(8)
            table.put(name, at * 7 % 32)
            slow.put(name, at * 7 % 32)
        for moved in (7, 1):
            table.move(moved)
            slow.move(moved)
            self.same(table.names, names)
            for place in places_of(slow.shape):
                self.same(table.at(place), slow.at(place))
        self.same([table.shape, table.moved], [(4,), 0])
