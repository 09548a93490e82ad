"""Traces: the numbers that one who lists sees, and the shapes that can be behind them."""

from seencursors.rules import END
from seencursors.runs import situations_of
from seencursors.trails import after, check_trace, fitting, is_trail, reached
from seencursors.ways import Ways


def trace_of(rule, road, run):
    """The trace of a run."""
    ways = Ways(rule, road)
    return [ways.number((shape, cursor)) for shape, _, cursor in situations_of(ways, run)]


def is_trace(rule, road, thing):
    """Whether a thing is a trace."""
    return is_trail(Ways(rule, road), thing)


def last_shapes(ways, trace):
    """The ascending list of the shapes of the last calls of the runs with a trace, of the empty one those at first."""
    return reached(ways, fitting(ways, trace))[-1] if trace else ways.opening


def shapes_at(rule, road, trace):
    """The ascending list of the shapes of the last calls of all runs with a trace."""
    ways = Ways(rule, road)
    check_trace(ways, trace)
    return last_shapes(ways, trace)


def nexts(rule, road, trace):
    """The ascending list of the numbers that put behind a trace make a trace."""
    ways = Ways(rule, road)
    check_trace(ways, trace)
    if not trace:
        return sorted({ways.number(state) for state in ways.first()})
    cursor = trace[-1]
    if cursor == END:
        return []
    return sorted({ways.number((shape, cursor)) for shape in after(ways, last_shapes(ways, trace))})
