"""Doubts: the hashes that a run with a trace need not have listed, and chains that show that all runs have."""

from seencursors.bits import check_hash, hashes_in
from seencursors.courses import leaving, waiting_course
from seencursors.trails import check_trace, closed_way, cursors_along, fitting, is_closed_way
from seencursors.views import bits_along
from seencursors.ways import Ways


def in_doubt(rule, road, trace):
    """The ascending list of the hashes that are in doubt behind a trace."""
    ways = Ways(rule, road)
    check_trace(ways, trace)
    return hashes_in(bits_along(ways, cursors_along(trace), fitting(ways, trace)))


def ways_traced(rule, road, trace, code):
    """The ways of a rule and a road that are asked about a trace and a hash, or one of the errors."""
    ways = Ways(rule, road)
    check_trace(ways, trace)
    check_hash(code)
    return ways


def leaving_rows(ways, trace, code):
    """For each number of a trace the ascending list of the shapes whose calls fit it and can leave out a hash."""
    return leaving(ways, cursors_along(trace), fitting(ways, trace), code)


def doubt_run(rule, road, trace, code):
    """The first in ascending order of the runs with a trace that wait for a hash, or None."""
    ways = ways_traced(rule, road, trace, code)
    return waiting_course(ways, cursors_along(trace), fitting(ways, trace), code)


def chain(rule, road, trace, code):
    """A paper that a hash is not in doubt behind a trace, or None if it is."""
    ways = ways_traced(rule, road, trace, code)
    return closed_way(ways, leaving_rows(ways, trace, code))


def is_chain(rule, road, trace, code, thing):
    """Whether a thing is a paper that a hash is not in doubt behind a trace."""
    ways = ways_traced(rule, road, trace, code)
    return is_closed_way(ways, leaving_rows(ways, trace, code), thing)
