"""Trails: the shapes that a table can have had at each call, by a list of shapes for each number of a trace."""

from seencursors.bits import is_number
from seencursors.errors import InvalidTrace
from seencursors.rules import END


def cursors_along(trace):
    """The list of the cursors with which the calls of a trace are made."""
    return ([0] + trace)[:len(trace)]


def fitting_calls(ways, cursors, numbers):
    """For each of some cursors the ascending list of the shapes whose calls go on with its number, or end if END."""
    return [[shape for shape, row in ways.numbers.items() if row[cursor] == number]
            for cursor, number in zip(cursors, numbers)]


def fitting(ways, trace):
    """For each number of a trace the ascending list of the shapes whose calls go on with it, or end if it is END."""
    return fitting_calls(ways, cursors_along(trace), trace)


def after(ways, shapes):
    """A dict with the shapes that may follow some shapes as its keys."""
    return {other: True for shape in shapes for other in ways.following[shape]}


def reached(ways, rows):
    """Of each of a list of lists of shapes those to which a way leads through the lists ahead, from the beginning."""
    found, shapes = [], ways.opening
    for row in rows:
        found.append([shape for shape in row if shape in shapes])
        shapes = after(ways, found[-1])
    return found


def passed(ways, rows):
    """Of each of a list of lists of shapes those through which a way leads from the beginning to the last list."""
    found = reached(ways, rows)
    for index in range(len(found) - 2, -1, -1):
        later = found[index + 1]
        found[index] = [shape for shape in found[index]
                        if any([other in later for other in ways.following[shape]])]
    return found


def first_way(ways, rows):
    """The first in ascending order of the ways through a list of lists of shapes, at least one, or None."""
    found = passed(ways, rows)
    if not found[-1]:
        return None
    way, shapes = [], ways.opening
    for row in found:
        way.append([shape for shape in row if shape in shapes][0])
        shapes = ways.following[way[-1]]
    return way


def closed_way(ways, rows):
    """The lists of shapes that show that no way leads through a list of lists of shapes, or None if one does."""
    found = reached(ways, rows)
    return None if not found or found[-1] else found


def are_shapes_of(ways, thing):
    """Whether a thing is an ascending list of different shapes of the road."""
    if not isinstance(thing, list) or not all([ways.has(shape) for shape in thing]):
        return False
    return all([shape < other for shape, other in zip(thing, thing[1:])])


def is_closed_way(ways, rows, thing):
    """Whether a thing is a list of lists that shows that no way leads through a list of lists of shapes.

    Whatever else its lists have, each of them has what its row has of what may stand there, and the last is empty.
    """
    if not isinstance(thing, list) or not thing or len(thing) != len(rows):
        return False
    if not all([are_shapes_of(ways, part) for part in thing]) or thing[-1]:
        return False
    shapes = ways.opening
    for row, part in zip(rows, thing):
        if not all([shape in part for shape in row if shape in shapes]):
            return False
        shapes = after(ways, part)
    return True


def is_trail(ways, thing):
    """Whether a thing is a trace, perhaps the empty one."""
    if not isinstance(thing, list) or not all([is_number(number, END, ways.many - 1) for number in thing]):
        return False
    if END in thing[:-1]:
        return False
    return not thing or len(reached(ways, fitting(ways, thing))[-1]) > 0


def check_trace(ways, trace):
    """Raise InvalidTrace if the trace is none."""
    if not is_trail(ways, trace):
        raise InvalidTrace("this is no trace of a run on the road by the rule")
