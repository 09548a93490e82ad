"""Watches: what one knows who looks at one listing from outside."""

from seencursors.bits import ALL_HASHES, check_hash, hashes_in, is_int
from seencursors.errors import NothingToUndo, Over, UnknownCursor
from seencursors.rules import END
from seencursors.views import bits_in, first_view, left_by_number, next_view
from seencursors.ways import Ways


class Watch:
    """A watch over one listing, that sees how its calls go on.

    For the beginning and each number that was seen it keeps a tuple, so that a number can be undone: the ascending list
    of the shapes that the last call can have had, the hashes in doubt, as bits, and the ascending dict from the numbers
    that can come next to what they leave in doubt.
    """

    def __init__(self, rule, road):
        self._ways = Ways(rule, road)
        self._rule = rule
        self._road = road
        self._trace = []
        self._known = [(self._ways.opening, ALL_HASHES, left_by_number(self._ways, first_view(self._ways), 0))]

    @property
    def rule(self):
        """The rule."""
        return self._rule

    @property
    def road(self):
        """The road."""
        return self._road

    @property
    def trace(self):
        """The list of the numbers that were seen."""
        return list(self._trace)

    @property
    def shapes(self):
        """The ascending list of the shapes that the last call can have had, at first those of the beginning."""
        return list(self._known[-1][0])

    @property
    def nexts(self):
        """The ascending list of the numbers that can come next."""
        return list(self._known[-1][2])

    @property
    def doubts(self):
        """The ascending list of the hashes that are in doubt."""
        return hashes_in(self._known[-1][1])

    @property
    def has_ended(self):
        """Whether the listing has ended."""
        return self._trace[-1:] == [END]

    @property
    def is_clear(self):
        """Whether nothing is in doubt."""
        return self._known[-1][1] == 0

    def is_sure(self, code):
        """Whether a hash is not in doubt."""
        check_hash(code)
        return not self._known[-1][1] >> code & 1

    def see(self, number):
        """See the cursor with which the next call has gone on, or END."""
        if self.has_ended:
            raise Over("the listing has ended")
        left = self._known[-1][2]
        if not is_int(number) or number not in left:
            raise UnknownCursor("no run goes on with this number")
        here = left[number]
        later = {} if number == END else left_by_number(self._ways, next_view(self._ways, here), number)
        self._known.append((sorted(here), bits_in(here), later))
        self._trace.append(number)

    def undo(self):
        """Restore the state before the last number that was seen."""
        if not self._trace:
            raise NothingToUndo("no number was seen")
        self._trace.pop()
        self._known.pop()

    def copy(self):
        """An independent watch in the same state, with the same numbers to undo."""
        other = Watch(self._rule, self._road)
        other._trace = list(self._trace)
        # What is kept for a number does not change any more.
        other._known = list(self._known)
        return other

    def __len__(self):
        return len(self._trace)
