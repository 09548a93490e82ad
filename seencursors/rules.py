"""Rules: what is listed with each shape and cursor, and how it goes on."""

from seencursors.bits import is_number
from seencursors.errors import InvalidCall, InvalidRule, UnknownCursor, UnknownShape
from seencursors.shapes import is_place, is_shape, left_out

MOST_CURSORS = 64
# What stands in a trace for a call that ends the listing.
END = -1


def is_ascending(shape, thing):
    """Whether a thing is an ascending tuple of different places of a shape."""
    if not isinstance(thing, tuple) or not all([is_place(shape, place) for place in thing]):
        return False
    return all([place < other for place, other in zip(thing, thing[1:])])


def is_call(cursors, shape, thing):
    """Whether a thing is a call with a shape, by a rule with so many cursors."""
    if not isinstance(thing, tuple) or len(thing) != 2:
        return False
    listing, later = thing
    return is_ascending(shape, listing) and (later is None or is_number(later, 0, cursors - 1))


def is_row(cursors, shape, thing):
    """Whether a thing is the list of the calls of a shape, one for each cursor."""
    if not isinstance(thing, list) or len(thing) != cursors:
        return False
    return all([is_call(cursors, shape, call) for call in thing])


def has_calls(cursors, thing):
    """Whether a thing is the dict of the calls of a rule with so many cursors."""
    if not isinstance(thing, dict) or not thing:
        return False
    return all([is_shape(shape) and is_row(cursors, shape, row) for shape, row in thing.items()])


class Rule:
    """A rule for cursors. It does not change."""

    def __init__(self, cursors, calls):
        if not is_number(cursors, 1, MOST_CURSORS) or not has_calls(cursors, calls):
            raise InvalidRule("a rule has 1 to 64 cursors, and for each of its shapes a call for each cursor")
        self._cursors = cursors
        self._calls = {shape: list(calls[shape]) for shape in sorted(calls)}
        # Worked out once, as most questions ask for them again and again.
        self._numbers = {
            shape: tuple([END if later is None else later for _, later in row]) for shape, row in self._calls.items()}
        self._gaps = {
            shape: tuple([left_out(shape, listing) for listing, _ in row]) for shape, row in self._calls.items()}

    @property
    def cursors(self):
        """The number of cursors."""
        return self._cursors

    @property
    def shapes(self):
        """The ascending list of the shapes."""
        return list(self._calls)

    @property
    def calls(self):
        """The dict from the shapes to the lists of their calls."""
        return {shape: list(row) for shape, row in self._calls.items()}

    def call(self, shape, cursor):
        """The call with a shape and a cursor."""
        self._check_state(shape, cursor)
        return self._calls[shape][cursor]

    def numbers_with(self, shape):
        """A tuple of the numbers that stand in a trace for the calls with one of the shapes, for each cursor."""
        return self._numbers[shape]

    def gaps_with(self, shape):
        """A tuple of what the calls with one of the shapes leave out, as left_out tells it, for each cursor."""
        return self._gaps[shape]

    def with_call(self, shape, cursor, call):
        """The rule in which the call with a shape and a cursor is another one."""
        self._check_state(shape, cursor)
        if not is_call(self._cursors, shape, call):
            raise InvalidCall("a call is an ascending tuple of places of the shape, and a cursor or None")
        changed = self.calls
        changed[shape][cursor] = call
        return Rule(self._cursors, changed)

    def _check_state(self, shape, cursor):
        # The tuple (True,) equals (1,), so that it is a shape is asked first.
        if not is_shape(shape) or shape not in self._calls:
            raise UnknownShape("the rule does not have the shape")
        if not is_number(cursor, 0, self._cursors - 1):
            raise UnknownCursor("the rule does not have the cursor")

    def __eq__(self, other):
        return isinstance(other, Rule) and self._cursors == other._cursors and self._calls == other._calls
