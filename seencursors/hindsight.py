"""Hindsight: what the table can have been like at an earlier call."""

from seencursors.bits import is_number
from seencursors.errors import InvalidNumber, UnknownShape
from seencursors.trails import check_trace, closed_way, first_way, fitting, is_closed_way, passed
from seencursors.ways import Ways


def hindsight(rule, road, trace):
    """For each number of a trace the ascending list of the shapes that the runs with the trace have at that call."""
    ways = Ways(rule, road)
    check_trace(ways, trace)
    return passed(ways, fitting(ways, trace))


def ways_looked_at(rule, road, trace, index, shape):
    """The ways of a rule and a road that are asked about a shape at a call of a trace, or one of the errors."""
    ways = Ways(rule, road)
    check_trace(ways, trace)
    if not is_number(index, 0, len(trace) - 1):
        raise InvalidNumber("the index is an integer from 0 to one less than the numbers of the trace")
    if not ways.has(shape):
        raise UnknownShape("the road does not have the shape")
    return ways


def narrowed(ways, trace, index, shape):
    """The lists of the shapes whose calls fit the numbers of a trace, at one index the shape alone or none."""
    rows = fitting(ways, trace)
    rows[index] = [other for other in rows[index] if other == shape]
    return rows


def run_with(rule, road, trace, index, shape):
    """The first in ascending order of the runs with a trace that have a shape at a call, or None."""
    ways = ways_looked_at(rule, road, trace, index, shape)
    way = first_way(ways, narrowed(ways, trace, index, shape))
    return None if way is None else [(other, False) for other in way]


def barrier(rule, road, trace, index, shape):
    """A paper that no run with a trace has a shape at a call, or None if one has."""
    ways = ways_looked_at(rule, road, trace, index, shape)
    return closed_way(ways, narrowed(ways, trace, index, shape))


def is_barrier(rule, road, trace, index, shape, thing):
    """Whether a thing is a paper that no run with a trace has a shape at a call."""
    ways = ways_looked_at(rule, road, trace, index, shape)
    return is_closed_way(ways, narrowed(ways, trace, index, shape), thing)
