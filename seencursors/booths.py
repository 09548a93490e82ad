"""Booths: desks each of whose listings is watched."""

from seencursors.desks import Desk
from seencursors.errors import Endless, Over
from seencursors.roads import full_road
from seencursors.watches import Watch

# What the last call that can be undone has done to the watches.
NOTHING = "nothing"
ENTERED = "entered"
SEEN = "seen"


class Booth:
    """A booth. Its log has a tuple for each call that can be undone: what it has done to the watches, and the label."""

    def __init__(self, rule, width):
        self._desk = Desk(rule, width)
        self._road = full_road(rule.shapes)
        self._watches = {}
        self._log = []

    @property
    def rule(self):
        """The rule."""
        return self._desk.rule

    @property
    def shape(self):
        """The shape of the table."""
        return self._desk.shape

    @property
    def names(self):
        """The ascending list of the names of the keys in the table."""
        return self._desk.names

    def put(self, name, code):
        """Put a key into the table."""
        self._desk.put(name, code)
        self._log.append((NOTHING, None))

    def drop(self, name):
        """Take a key out of the table."""
        self._desk.drop(name)
        self._log.append((NOTHING, None))

    def start(self, width):
        """Begin to move everything to a table of another width."""
        self._desk.start(width)
        self._log.append((NOTHING, None))

    def move(self, count):
        """Move all keys of as many next buckets of table 0 to table 1."""
        self._desk.move(count)
        self._log.append((NOTHING, None))

    def enter(self, label):
        """Begin a listing, and watch it."""
        self._desk.enter(label)
        self._watches[label] = Watch(self._desk.rule, self._road)
        self._log.append((ENTERED, label))

    def step(self, label):
        """List once, and return the ascending list of the names that this tells."""
        told = self._desk.step(label)
        self._watches[label].see(self._desk.cursor_of(label))
        self._log.append((SEEN, label))
        return told

    def undo(self):
        """Restore the state before the last call that can be undone."""
        self._desk.undo()
        done, label = self._log.pop()
        if done == ENTERED:
            del self._watches[label]
        elif done == SEEN:
            self._watches[label].undo()

    def finish(self, label):
        """Make steps until nothing is in doubt or the listing has ended, and return the list of what they return."""
        if self._desk.is_over(label):
            raise Over("the listing has ended")
        found = []
        for _ in range(self._calls_to_finish(label)):
            found.append(self.step(label))
        return found

    def _calls_to_finish(self, label):
        watch, cursor = self._watches[label].copy(), self._desk.cursor_of(label)
        numbers = self._desk.rule.numbers_with(self._desk.shape)
        met = {}
        while not met or not (watch.is_clear or watch.has_ended):
            # On a full road what comes hangs on the cursor and on what is in doubt, alone.
            state = (cursor, tuple(watch.doubts))
            if state in met:
                raise Endless("with the table as it is the listing goes on in doubt for ever")
            met[state] = True
            cursor = numbers[cursor]
            watch.see(cursor)
        return len(met)

    def told(self, label):
        """The ascending dict from the names that a listing has told so far to how often."""
        return self._desk.told(label)

    def stayed(self, label):
        """The ascending list of the names of the keys that have been in the table since a listing began."""
        return self._desk.stayed(label)

    def is_over(self, label):
        """Whether a listing has ended."""
        return self._desk.is_over(label)

    def numbers_of(self, label):
        """The trace of a listing."""
        return self._watch(label).trace

    def doubts_of(self, label):
        """The ascending list of the hashes that are in doubt behind the trace of a listing."""
        return self._watch(label).doubts

    def surely_told(self, label):
        """The ascending list of the names of the keys that have stayed and whose hash is not in doubt."""
        watch = self._watch(label)
        return [name for name in self._desk.stayed(label) if watch.is_sure(self._desk.code_of(name))]

    def can_stop(self, label):
        """Whether nothing is in doubt behind the trace of a listing."""
        return self._watch(label).is_clear

    def copy(self):
        """An independent booth in the same state, with the same calls to undo."""
        other = Booth(self._desk.rule, self._desk.shape[0])
        other._desk = self._desk.copy()
        other._watches = {label: watch.copy() for label, watch in self._watches.items()}
        other._log = list(self._log)
        return other

    def __len__(self):
        return len(self._log)

    def _watch(self, label):
        # The desk knows the labels, and refuses others.
        self._desk.is_over(label)
        return self._watches[label]
