"""Tables: keys in buckets, perhaps while everything moves to a table of another width."""

from seencursors.bits import check_hash, is_number, is_width
from seencursors.errors import InvalidNumber, InvalidPlace, InvalidWidth, Moving, UnknownName
from seencursors.names import check_new, is_known
from seencursors.shapes import is_place, left_out


def is_later(stage, key):
    """Whether a key is in table 1 at a stage: it was put while it moved, or its bucket was moved."""
    shape, moved, begun = stage
    code, number = key
    return len(shape) == 2 and (number >= begun or code % (1 << shape[0]) < moved)


class Table:
    """A table of keys.

    A key is kept as a tuple of its hash and how many keys had been put ahead of it; the stage is a tuple of the shape,
    how many buckets were moved, and how many keys had been put when it began to move. So a key tells by itself where it
    is, and was at an earlier stage.
    """

    def __init__(self, width):
        if not is_width(width):
            raise InvalidWidth("a width is an integer from 0 to 5")
        self._stage = ((width,), 0, 0)
        self._keys = {}
        self._puts = 0

    @property
    def shape(self):
        """The shape."""
        return self._stage[0]

    @property
    def names(self):
        """The ascending list of the names of the keys."""
        return sorted(self._keys)

    @property
    def moved(self):
        """The number of buckets that were moved since it began to move, 0 with one table."""
        return self._stage[1]

    @property
    def stage(self):
        """What was_moved and go_back understand as how far the table has moved."""
        return self._stage

    @property
    def puts(self):
        """How many keys have been put so far, those that were taken out again among them."""
        return self._puts

    def put(self, name, code):
        """Put a key into the table, into table 1 while it moves."""
        check_new(self._keys, name)
        check_hash(code)
        self._keys[name] = (code, self._puts)
        self._puts += 1

    def drop(self, name):
        """Take a key out."""
        self._check_name(name)
        del self._keys[name]

    def check_start(self, width):
        """Raise the errors of start."""
        if not is_width(width) or self._stage[0] == (width,):
            raise InvalidWidth("a table moves to another width, from 0 to 5")
        if len(self._stage[0]) == 2:
            raise Moving("the table moves already")

    def start(self, width):
        """Begin to move everything to a table of another width."""
        self.check_start(width)
        self._stage = (self._stage[0] + (width,), 0, self._puts)

    def move(self, count):
        """Move all keys of as many next buckets of table 0 to table 1, which in the end is the one table."""
        shape, moved, begun = self._stage
        left = (1 << shape[0]) - moved if len(shape) == 2 else 0
        if not is_number(count, 1, left):
            raise InvalidNumber("the count is an integer from 1 to the number of buckets that are not moved yet")
        self._stage = (shape[1:], 0, 0) if count == left else (shape, moved + count, begun)

    def code_of(self, name):
        """The hash of a key."""
        return self.key_of(name)[0]

    def is_moved(self, name):
        """Whether a key is in table 1."""
        return is_later(self._stage, self.key_of(name))

    def was_moved(self, name, stage):
        """Whether a key that is in the table now was in table 1 at an earlier stage."""
        return is_later(stage, self.key_of(name))

    def at(self, place):
        """The ascending list of the names of the keys at a place."""
        if not is_place(self._stage[0], place):
            raise InvalidPlace("this is no place of the shape of the table")
        return self.told_by(left_out(self._stage[0], (place,)))

    def told_by(self, lack):
        """The ascending list of the names of the keys that a call tells, by what it leaves out for each moved."""
        # Moved is the index of the table in which the key is.
        return sorted([name for name, key in self._keys.items()
                       if not lack[is_later(self._stage, key)] >> key[0] & 1])

    def names_before(self, puts):
        """The ascending list of the names of the keys that were put ahead of a number of keys."""
        return sorted([name for name, key in self._keys.items() if key[1] < puts])

    def has_before(self, name, puts):
        """Whether a name is that of such a key."""
        return is_known(self._keys, name) and self._keys[name][1] < puts

    def key_of(self, name):
        """What put_back understands as a key."""
        self._check_name(name)
        return self._keys[name]

    def put_back(self, name, key):
        """Take back that a key was taken out."""
        self._keys[name] = key

    def go_back(self, stage):
        """Take back how far the table has moved since an earlier stage."""
        self._stage = stage

    def copy(self):
        """An independent table in the same state."""
        other = Table(self._stage[0][0])
        other._stage = self._stage
        other._keys = {name: self._keys[name] for name in self._keys}
        other._puts = self._puts
        return other

    def _check_name(self, name):
        if not is_known(self._keys, name):
            raise UnknownName("no key has the name")
