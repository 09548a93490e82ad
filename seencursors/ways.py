"""Ways: how the calls of a rule come behind each other on a road."""

from seencursors.bits import is_number
from seencursors.errors import Mismatch
from seencursors.rules import END
from seencursors.shapes import is_move, is_shape, moves


class Ways:
    """A rule and a road, laid out to be looked up by what is known to be right. A state is a tuple (shape, cursor).

    many is the number of cursors, opening the list of the shapes with which the road may begin; from each shape of the
    road following leads to the list of those that may follow it, numbers to a tuple of what stands in a trace for the
    call with each cursor, and lacks to one of what each of these calls leaves out.
    """

    def __init__(self, rule, road):
        known, shapes = rule.shapes, road.shapes
        if not all([shape in known for shape in shapes]):
            raise Mismatch("the rule does not have all shapes of the road")
        self.many = rule.cursors
        self.opening = road.begin
        self.following = {shape: road.behind(shape) for shape in shapes}
        self.numbers = {shape: rule.numbers_with(shape) for shape in shapes}
        self.lacks = {shape: rule.gaps_with(shape) for shape in shapes}

    def has(self, thing):
        """Whether a thing is a shape of the road."""
        # The tuple (True,) equals (1,), so that it is a shape is asked first.
        return is_shape(thing) and thing in self.following

    def is_step(self, thing):
        """Whether a thing is a tuple of a shape of the road and what moved can be with it."""
        if not isinstance(thing, tuple) or len(thing) != 2:
            return False
        shape, moved = thing
        return self.has(shape) and is_move(shape, moved)

    def is_situation(self, thing):
        """Whether a thing is a tuple of a shape of the road, moved, and a cursor of the rule."""
        if not isinstance(thing, tuple) or len(thing) != 3:
            return False
        return self.is_step(thing[:2]) and is_number(thing[2], 0, self.many - 1)

    def first(self):
        """The ascending list of the states at the beginning."""
        return [(shape, 0) for shape in self.opening]

    def number(self, state):
        """The cursor with which the call of a state goes on, or END."""
        shape, cursor = state
        return self.numbers[shape][cursor]

    def behind(self, state):
        """The ascending list of the states behind one, none if its call ends."""
        shape, cursor = state
        number = self.numbers[shape][cursor]
        return [] if number == END else [(other, number) for other in self.following[shape]]

    def waits(self, code):
        """A dict from the states whose calls can leave out a hash to the lists of moved with which they do."""
        found = {}
        for shape, row in self.lacks.items():
            both = moves(shape)
            for cursor, lack in enumerate(row):
                moved = [move for move, bits in zip(both, lack) if bits >> code & 1]
                if moved:
                    found[(shape, cursor)] = moved
        return found


def situations(waits, states):
    """The list of the situations that wait with some states, by what Ways.waits returns."""
    return [(shape, moved, cursor) for shape, cursor in states for moved in waits.get((shape, cursor), [])]


def first_run(waits, states):
    """The first run in ascending order of those that wait with a list of states."""
    return [(shape, waits[(shape, cursor)][0]) for shape, cursor in states]
