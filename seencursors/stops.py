"""Stops: how many calls one makes who stops as soon as nothing is in doubt."""

from seencursors.bits import MOST_HASH, check_number
from seencursors.heights import greatest, is_heights, longest_way, measured
from seencursors.papers import spread
from seencursors.rules import END
from seencursors.ways import Ways, first_run


def waits_on(ways, code):
    """What Ways.waits returns, with those states alone whose calls go on."""
    return {state: moved for state, moved in ways.waits(code).items() if ways.number(state) != END}


def run_and_next(ways, waits, way):
    """A run that waits with a list of states, and a further call behind it, the first one if there is no state."""
    states = ways.behind(way[-1]) if way else ways.first()
    return first_run(waits, way) + [(states[0][0], False)]


def latest_stop(rule, road):
    """A tuple (number, code, run) of the greatest number of calls of one who stops, or None if there is none."""
    ways = Ways(rule, road)
    found = None
    for code in range(MOST_HASH + 1):
        waits = waits_on(ways, code)
        graph, heights = measured(ways, waits)
        if len(heights) < len(graph):
            return None
        calls = greatest(heights) + 1
        if found is None or calls > found[0]:
            found = (calls, code, run_and_next(ways, waits, longest_way(graph, heights)))
    return found


def stop_paper(rule, road, number):
    """A paper that one who stops makes at most a number of calls, or None if there is none."""
    ways = Ways(rule, road)
    check_number(number)
    found = []
    for code in range(MOST_HASH + 1):
        waits = waits_on(ways, code)
        graph, heights = measured(ways, waits)
        if len(heights) < len(graph) or greatest(heights) >= number:
            return None
        found.append(spread(waits, heights))
    return found


def is_stop_paper(rule, road, number, thing):
    """Whether a thing is a paper that one who stops makes at most a number of calls."""
    ways = Ways(rule, road)
    check_number(number)
    # The first call is always made.
    if number == 0 or not isinstance(thing, list) or len(thing) != MOST_HASH + 1:
        return False
    return all([is_heights(ways, waits_on(ways, code), number - 1, part) for code, part in enumerate(thing)])
