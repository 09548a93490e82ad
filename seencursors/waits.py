"""Waits: the greatest number of calls that do not list a hash, or a loop of such calls."""

from seencursors.bits import check_number, is_number
from seencursors.heights import greatest, is_heights, longest_way, measured
from seencursors.missed import ways_asked
from seencursors.papers import is_waiting, spread
from seencursors.runs import situations_in
from seencursors.ways import first_run


def longest_wait(rule, road, code):
    """A tuple of the greatest number of calls of a run that waits and such a run, or None if there is none."""
    ways = ways_asked(rule, road, code)
    waits = ways.waits(code)
    graph, heights = measured(ways, waits)
    if len(heights) < len(graph):
        return None
    return (greatest(heights), first_run(waits, longest_way(graph, heights)))


def wait_heights(rule, road, code, number):
    """A paper that no run that waits has more calls than a number, or None if one has."""
    ways = ways_asked(rule, road, code)
    check_number(number)
    waits = ways.waits(code)
    graph, heights = measured(ways, waits)
    if len(heights) < len(graph) or greatest(heights) > number:
        return None
    return spread(waits, heights)


def is_wait_heights(rule, road, code, number, thing):
    """Whether a thing is a paper that no run that waits has more calls than a number."""
    ways = ways_asked(rule, road, code)
    check_number(number)
    return is_heights(ways, ways.waits(code), number, thing)


def way_into_loop(graph, heights):
    """A list of states behind which one of them can come again, and the index of that."""
    # What leads to a state without a height has none either, and the nearest stand first: so this is at the beginning.
    state = [other for other in graph if other not in heights][0]
    at = {}
    while state not in at:
        at[state] = len(at)
        state = [other for other in graph[state] if other not in heights][0]
    return list(at), at[state]


def waiting_loop(rule, road, code):
    """A tuple of a run that waits and the index of a call whose situation can come next, or None."""
    ways = ways_asked(rule, road, code)
    waits = ways.waits(code)
    graph, heights = measured(ways, waits)
    if len(heights) == len(graph):
        return None
    way, index = way_into_loop(graph, heights)
    return (first_run(waits, way), index)


def is_waiting_loop(rule, road, code, thing):
    """Whether a thing is a tuple of a run that waits and the index of a call whose situation can come next."""
    ways = ways_asked(rule, road, code)
    if not isinstance(thing, tuple) or len(thing) != 2:
        return False
    run, index = thing
    found = situations_in(ways, run)
    if found is None or not is_number(index, 0, len(found) - 1):
        return False
    waits = ways.waits(code)
    if not all([is_waiting(ways, waits, situation) for situation in found]):
        return False
    states = [(shape, cursor) for shape, _, cursor in found]
    return states[index] in ways.behind(states[-1])
