"""Desks: a table, and listings of it by a rule."""

from seencursors.errors import NothingToUndo, Over, UnknownLabel, UnknownName, UnknownShape
from seencursors.listings import Listing
from seencursors.names import check_new, is_known
from seencursors.rules import END
from seencursors.tables import Table

# The kinds of calls that can be undone.
PUT = "put"
DROP = "drop"
STAGE = "stage"
ENTER = "enter"
STEP = "step"


def check_shapes(rule, shapes):
    """Raise UnknownShape if the rule does not have some shapes."""
    known = rule.shapes
    if not all([shape in known for shape in shapes]):
        raise UnknownShape("the rule does not have the shape")


class Desk:
    """A desk.

    Its log has a tuple for each call that can be undone: the kind, the name or label, and what takes it back.
    """

    def __init__(self, rule, width):
        table = Table(width)
        check_shapes(rule, [table.shape])
        self._rule = rule
        self._table = table
        self._listings = {}
        self._log = []

    @property
    def rule(self):
        """The rule."""
        return self._rule

    @property
    def shape(self):
        """The shape of the table."""
        return self._table.shape

    @property
    def names(self):
        """The ascending list of the names of the keys in the table."""
        return self._table.names

    @property
    def moved(self):
        """The number of buckets that were moved since the table began to move, 0 with one table."""
        return self._table.moved

    def put(self, name, code):
        """Put a key into the table."""
        self._table.put(name, code)
        self._log.append((PUT, name, None))

    def drop(self, name):
        """Take a key out of the table."""
        key = self._table.key_of(name)
        self._table.drop(name)
        self._log.append((DROP, name, key))

    def start(self, width):
        """Begin to move everything to a table of another width."""
        self._table.check_start(width)
        check_shapes(self._rule, [self._table.shape + (width,), (width,)])
        stage = self._table.stage
        self._table.start(width)
        self._log.append((STAGE, None, stage))

    def move(self, count):
        """Move all keys of as many next buckets of table 0 to table 1."""
        stage = self._table.stage
        self._table.move(count)
        self._log.append((STAGE, None, stage))

    def enter(self, label):
        """Begin a listing."""
        check_new(self._listings, label)
        self._listings[label] = Listing(self._table.puts)
        self._log.append((ENTER, label, None))

    def step(self, label):
        """List once, and return the ascending list of the names that this tells."""
        listing = self._listing(label)
        cursor, shape = listing.cursor, self._table.shape
        if cursor == END:
            raise Over("the listing has ended")
        told = self._table.told_by(self._rule.gaps_with(shape)[cursor])
        listing.tell(self._table.stage, told, self._rule.numbers_with(shape)[cursor])
        self._log.append((STEP, label, (tuple(told), cursor)))
        return told

    def undo(self):
        """Restore the state before the last call that can be undone."""
        if not self._log:
            raise NothingToUndo("no call can be undone")
        kind, name, held = self._log.pop()
        if kind == PUT:
            self._table.drop(name)
        elif kind == DROP:
            self._table.put_back(name, held)
        elif kind == STAGE:
            self._table.go_back(held)
        elif kind == ENTER:
            del self._listings[name]
        else:
            told, cursor = held
            self._listings[name].take_back(told, cursor)

    def told(self, label):
        """The ascending dict from the names that a listing has told so far to how often."""
        counts = self._listing(label).counts
        return {name: counts[name] for name in sorted(counts)}

    def stayed(self, label):
        """The ascending list of the names of the keys that have been in the table since a listing began."""
        return self._table.names_before(self._listing(label).since)

    def run_of(self, label, name):
        """The list of the tuples (shape, moved) of a key that has stayed, for each call of a listing."""
        listing = self._listing(label)
        if not self._table.has_before(name, listing.since):
            raise UnknownName("no key with the name has stayed")
        return [(stage[0], self._table.was_moved(name, stage)) for stage in listing.stages]

    def is_over(self, label):
        """Whether a listing has ended."""
        return self._listing(label).cursor == END

    def cursor_of(self, label):
        """The cursor with which the next call of a listing is made, or END if it has ended."""
        return self._listing(label).cursor

    def code_of(self, name):
        """The hash of a key in the table."""
        return self._table.code_of(name)

    def copy(self):
        """An independent desk in the same state, with the same earlier states."""
        other = Desk(self._rule, self._table.shape[0])
        other._table = self._table.copy()
        other._listings = {label: listing.copy() for label, listing in self._listings.items()}
        other._log = list(self._log)
        return other

    def __len__(self):
        return len(self._log)

    def _listing(self, label):
        if not is_known(self._listings, label):
            raise UnknownLabel("no listing has the label")
        return self._listings[label]
