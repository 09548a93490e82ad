"""Doubts: the hashes that a run with a trace need not have listed, and chains that show that all runs have."""

from seencursors.bits import ALL_HASHES, check_hash, hashes_in
from seencursors.trails import check_trace, closed_way, cursors_along, first_way, fitting, is_closed_way
from seencursors.ways import Ways, first_run


def bits_left(ways, shape, cursor):
    """The hashes that the call with a shape and a cursor can leave out, as bits."""
    lack = ways.lacks[shape][cursor]
    return lack[0] | lack[-1]


def bits_behind(ways, trace):
    """The hashes that are in doubt behind a trace, as bits."""
    bits = ALL_HASHES
    coming = {shape: bits for shape in ways.opening}
    for cursor, row in zip(cursors_along(trace), fitting(ways, trace)):
        here = {shape: coming[shape] & bits_left(ways, shape, cursor) for shape in row if shape in coming}
        bits, coming = 0, {}
        for shape, part in here.items():
            bits |= part
            for other in ways.following[shape]:
                coming[other] = coming.get(other, 0) | part
    return bits


def in_doubt(rule, road, trace):
    """The ascending list of the hashes that are in doubt behind a trace."""
    ways = Ways(rule, road)
    check_trace(ways, trace)
    return hashes_in(bits_behind(ways, trace))


def ways_traced(rule, road, trace, code):
    """The ways of a rule and a road that are asked about a trace and a hash, or one of the errors."""
    ways = Ways(rule, road)
    check_trace(ways, trace)
    check_hash(code)
    return ways


def leaving(ways, trace, code):
    """For each number of a trace the ascending list of the shapes whose calls fit it and can leave out a hash."""
    return [[shape for shape in row if bits_left(ways, shape, cursor) >> code & 1]
            for cursor, row in zip(cursors_along(trace), fitting(ways, trace))]


def doubt_run(rule, road, trace, code):
    """The first in ascending order of the runs with a trace that wait for a hash, or None."""
    ways = ways_traced(rule, road, trace, code)
    if not trace:
        return []
    way = first_way(ways, leaving(ways, trace, code))
    return None if way is None else first_run(ways.waits(code), list(zip(way, cursors_along(trace))))


def chain(rule, road, trace, code):
    """A paper that a hash is not in doubt behind a trace, or None if it is."""
    ways = ways_traced(rule, road, trace, code)
    return closed_way(ways, leaving(ways, trace, code))


def is_chain(rule, road, trace, code, thing):
    """Whether a thing is a paper that a hash is not in doubt behind a trace."""
    ways = ways_traced(rule, road, trace, code)
    return is_closed_way(ways, leaving(ways, trace, code), thing)
