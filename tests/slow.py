"""Tables and desks in the document's words, key by key, with a whole copy of each earlier state."""

import copy
import random

from seencursors.errors import InvalidNumber, InvalidWidth, Moving, UnknownShape
from seencursors.rules import Rule

from helpers import ODD, places_of
from model import some_calls

NAMES = ["a", "b", "c", "d", "zz", "key", "abcdefgh"]
LABELS = ["one", "two", "a"]
# Things that are no names, many of them nearly.
NO_NAMES = [thing for thing in ODD if thing != "a"] + [
    "", "A", "aB", "a ", " a", "a\n", "a\t", "\n", "a b", "abcdefghi", "a1", "1", "_", "a_", "a-b", "`", "{", "@", "[", "a.",
    ("a",), ["a"], {"a": "a"}, [["a"]], ("a", "b")]


class SlowTable:
    """A table that keeps for each key its hash and the table in which it is."""

    def __init__(self, width):
        self.shape, self.moved, self.keys = (width,), 0, {}

    def put(self, name, code):
        self.keys[name] = [code, len(self.shape) - 1]

    def drop(self, name):
        del self.keys[name]

    def start(self, width):
        if width == self.shape[0] and len(self.shape) == 1:
            raise InvalidWidth("")
        if len(self.shape) == 2:
            raise Moving("")
        self.shape = (self.shape[0], width)

    def left(self):
        return 2 ** self.shape[0] - self.moved if len(self.shape) == 2 else 0

    def move(self, count):
        if not 1 <= count <= self.left():
            raise InvalidNumber("")
        for bucket in range(self.moved, self.moved + count):
            for key in self.keys.values():
                if key[1] == 0 and key[0] % 2 ** self.shape[0] == bucket:
                    key[1] = 1
        self.moved += count
        if self.left() == 0:
            self.shape, self.moved = self.shape[1:], 0
            for key in self.keys.values():
                key[1] = 0

    def place(self, name):
        code, table = self.keys[name]
        return (table, code % 2 ** self.shape[table])

    def at(self, place):
        return sorted(name for name in self.keys if self.place(name) == place)

    def is_moved(self, name):
        return self.keys[name][1] == 1


class SlowDesk:
    """A desk whose listings keep for each call the shape and how each key was moved, and which keys have stayed."""

    def __init__(self, calls, width):
        self.calls, self.history = calls, []
        self.state = (SlowTable(width), {})

    @property
    def table(self):
        return self.state[0]

    @property
    def listings(self):
        return self.state[1]

    def keep(self):
        self.history.append(copy.deepcopy(self.state))

    def undo(self):
        self.state = self.history.pop()

    def copied(self):
        other = SlowDesk(self.calls, 0)
        other.state, other.history = copy.deepcopy((self.state, self.history))
        return other

    def put(self, name, code):
        self.keep()
        self.table.put(name, code)

    def drop(self, name):
        self.keep()
        self.table.drop(name)
        for listing in self.listings.values():
            listing["stayed"].pop(name, None)

    def start(self, width):
        SlowTable.start(copy.deepcopy(self.table), width)
        if (self.table.shape[0], width) not in self.calls or (width,) not in self.calls:
            raise UnknownShape("")
        self.keep()
        self.table.start(width)

    def move(self, count):
        SlowTable.move(copy.deepcopy(self.table), count)
        self.keep()
        self.table.move(count)

    def enter(self, label):
        self.keep()
        self.listings[label] = {"cursor": 0, "told": {}, "stayed": {name: [] for name in self.table.keys}, "trace": []}

    def step(self, label):
        self.keep()
        listing = self.listings[label]
        places, later = self.calls[self.table.shape][listing["cursor"]]
        told = sorted(name for name in self.table.keys if self.table.place(name) in places)
        for name in told:
            listing["told"][name] = listing["told"].get(name, 0) + 1
        for name, run in listing["stayed"].items():
            run.append((self.table.shape, self.table.is_moved(name)))
        listing["cursor"] = later
        listing["trace"].append(-1 if later is None else later)
        return told


def desk_rule(seed, widths=(0, 1, 2), cursors=3, ends=0.2, tells=0.6, lacking=0.0):
    """A rule with the shapes of all tables of some widths, and of moves between them; some of these may be lacking."""
    source = random.Random(seed)
    shapes = [(width,) for width in widths] + [
        (one, two) for one in widths for two in widths if one != two and source.random() >= lacking]
    return Rule(cursors, some_calls(source, cursors, shapes, ends, tells))


def agreed_rule(seed, cursors=5):
    """A rule by which all shapes list keys with the same remainders by 4 or 2, so that doubts go little by little."""
    source, calls = random.Random(seed), {}
    shapes = [(1,), (2,), (1, 2), (2, 1)]
    for at in range(cursors):
        rests = source.sample(range(4), source.choice([0, 1, 1, 2]))
        later = None if source.random() < 0.08 else source.choice([(at + 1) % cursors] * 5 + [source.randrange(cursors)])
        for shape in shapes:
            told = {(table, rest % 2 ** width) for table, width in enumerate(shape) for rest in rests}
            calls.setdefault(shape, []).append((tuple(sorted(told)), later))
    return Rule(cursors, calls)


def table_call(source, table, names=NAMES):
    """The name and the arguments of a call that a table does not refuse."""
    free, used = [name for name in names if name not in table.keys], sorted(table.keys)
    kinds = (["put"] * 3 if free else []) + (["drop"] if used else []) + (
        ["start"] if len(table.shape) == 1 else ["move"] * 3)
    kind = source.choice(kinds)
    if kind == "put":
        return kind, (source.choice(free), source.randrange(32))
    if kind == "drop":
        return kind, (source.choice(used),)
    if kind == "move":
        return kind, (source.randint(1, min(table.left(), source.choice([1, 2, 32]))),)
    return kind, (source.choice([width for width in range(6) if width != table.shape[0]]),)


def desk_call(source, desk, widths=(0, 1, 2)):
    """The name and the arguments of a call that a desk or a booth does not refuse."""
    on = [label for label, listing in desk.listings.items() if listing["cursor"] is not None]
    new = [label for label in LABELS if label not in desk.listings]
    kind = source.choice(["table"] * 3 + (["enter"] if new else []) + (["step"] * 3 if on else []))
    if kind == "enter":
        return kind, (source.choice(new),)
    if kind == "step":
        return kind, (source.choice(on),)
    kind, given = table_call(source, desk.table)
    if kind == "start":
        can = [width for width in widths if width != desk.table.shape[0]
               and (desk.table.shape[0], width) in desk.calls and (width,) in desk.calls]
        return ("start", (source.choice(can),)) if can else desk_call(source, desk, widths)
    return kind, given
