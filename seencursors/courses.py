"""Courses: what a key meets at calls with given cursors, wherever these come from."""

from seencursors.trails import first_way
from seencursors.views import bits_left


def leaving(ways, cursors, rows, code):
    """Of each of a list of lists of shapes those whose calls, each with its cursor, can leave out a hash."""
    return [[shape for shape in row if bits_left(ways, shape, cursor) >> code & 1]
            for cursor, row in zip(cursors, rows)]


def waiting_course(ways, cursors, rows, code):
    """The first in ascending order of the courses through lists of shapes that wait for a hash, or None."""
    if not rows:
        return []
    way = first_way(ways, leaving(ways, cursors, rows, code))
    if way is None:
        return None
    # A call that can leave out the hash does so for moved False, or else for moved True.
    return [(shape, not ways.lacks[shape][cursor][0] >> code & 1) for shape, cursor in zip(way, cursors)]


def is_waiting_course(ways, cursors, numbers, code, thing):
    """Whether a thing is a course for some cursors that goes on with some numbers and waits for a hash."""
    if not isinstance(thing, list) or len(thing) != len(cursors):
        return False
    shapes = ways.opening
    for step, cursor, number in zip(thing, cursors, numbers):
        if not ways.is_step(step):
            return False
        shape, moved = step
        # Moved is the index of the table in which the key is.
        waits = ways.lacks[shape][cursor][moved] >> code & 1
        if shape not in shapes or ways.numbers[shape][cursor] != number or not waits:
            return False
        shapes = ways.following[shape]
    return True
