"""Switches: how many changes of shape a run needs to miss a hash."""

from heapq import heapify, heappop, heappush

from seencursors.bits import MOST_HASH, check_number, is_from
from seencursors.heights import ahead_in, waiting_graph
from seencursors.missed import ways_asked
from seencursors.papers import holds, is_over_waits, spread
from seencursors.rules import END
from seencursors.ways import Ways, first_run


def is_switch(state, other):
    """Whether the shapes of two states are different."""
    return state[0] != other[0]


def ends_in(ways, states):
    """The list of those of some states whose calls end the listing."""
    return [state for state in states if ways.number(state) == END]


def costs_to_end(ways, graph):
    """A dict from the states of a graph to the least (switches, calls) from there to an end, where one can be met."""
    ahead = ahead_in(graph)
    queue = [(0, 1, state) for state in ends_in(ways, graph)]
    heapify(queue)
    costs = {}
    while queue:
        switches, calls, state = heappop(queue)
        if state in costs:
            continue
        costs[state] = (switches, calls)
        for other in ahead[state]:
            if other not in costs:
                heappush(queue, (switches + int(is_switch(state, other)), calls + 1, other))
    return costs


def cheapest(graph, costs, state):
    """The first of the states behind one that make the least (switches, calls) from there to an end."""
    ends = [other for other in graph[state] if other in costs]
    return min([(costs[other][0] + int(is_switch(state, other)), costs[other][1], other) for other in ends])[2]


def fewest_switches(rule, road, code):
    """A tuple of the least number of switches of a run that misses a hash and the first such run, or None."""
    ways = ways_asked(rule, road, code)
    waits = ways.waits(code)
    graph = waiting_graph(ways, waits)
    costs = costs_to_end(ways, graph)
    first = [(costs[state], state) for state in ways.first() if state in costs]
    if not first:
        return None
    (switches, calls), state = min(first)
    way = [state]
    while len(way) < calls:
        way.append(cheapest(graph, costs, way[-1]))
    return (switches, first_run(waits, way))


def levels_of(ways, graph):
    """A dict from the states of a graph to the least numbers of switches by which runs come to them."""
    levels = {}
    level, states = 0, [state for state in ways.first() if state in graph]
    while states:
        switched = []
        while states:
            state = states.pop()
            if state not in levels:
                levels[state] = level
                states.extend([other for other in graph[state] if not is_switch(state, other)])
                switched.extend([other for other in graph[state] if is_switch(state, other)])
        level, states = level + 1, switched
    return levels


def least_switches(ways, levels):
    """The least number of switches of a run that misses the hash, by the levels of the states, or None."""
    return min([levels[state] for state in ends_in(ways, levels)], default=None)


def switch_levels(rule, road, code, number):
    """A paper that no run that misses a hash has fewer switches than a number, or None if one has."""
    ways = ways_asked(rule, road, code)
    check_number(number)
    waits = ways.waits(code)
    levels = levels_of(ways, waiting_graph(ways, waits))
    least = least_switches(ways, levels)
    return spread(waits, levels) if least is None or least >= number else None


def is_switch_levels(rule, road, code, number, thing):
    """Whether a thing is a paper that no run that misses a hash has fewer switches than a number."""
    ways = ways_asked(rule, road, code)
    check_number(number)
    waits = ways.waits(code)
    if not is_over_waits(ways, waits, thing, lambda worth: is_from(worth, 0)):
        return False
    ends = [level for (shape, _, cursor), level in thing.items() if ways.number((shape, cursor)) == END]
    return min(ends, default=number) >= number and holds(
        ways, waits, thing, is_first=lambda worth: worth == 0,
        is_later=lambda worth, later, switch: later <= worth + int(switch))


def weakest(rule, road):
    """A tuple of the least number of switches of a run that misses any hash and the least such hash, or None."""
    ways = Ways(rule, road)
    found = []
    for code in range(MOST_HASH + 1):
        least = least_switches(ways, levels_of(ways, waiting_graph(ways, ways.waits(code))))
        if least is not None:
            found.append((least, code))
    return min(found, default=None)
