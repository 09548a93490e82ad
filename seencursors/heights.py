"""Heights: how many calls runs that wait can still have, from each state on."""

from seencursors.bits import is_from
from seencursors.papers import holds, is_over_waits


def waiting_graph(ways, waits):
    """A dict from the states that runs that wait come to, nearest first, to the lists of those behind them."""
    graph = {}
    queue = [state for state in ways.first() if state in waits]
    index = 0
    while index < len(queue):
        state = queue[index]
        index += 1
        if state not in graph:
            graph[state] = [other for other in ways.behind(state) if other in waits]
            queue.extend(graph[state])
    return graph


def ahead_in(graph):
    """A dict from the states of a graph to the lists of those ahead of them."""
    ahead = {state: [] for state in graph}
    for state, row in graph.items():
        for other in row:
            ahead[other].append(state)
    return ahead


def heights_in(graph):
    """A dict from states of a graph to the greatest numbers of calls from there on, without those that have none."""
    ahead = ahead_in(graph)
    open_ways = {state: len(row) for state, row in graph.items()}
    queue = [state for state, row in graph.items() if not row]
    heights = {}
    index = 0
    while index < len(queue):
        state = queue[index]
        index += 1
        heights[state] = 1 + max([heights[other] for other in graph[state]], default=0)
        for other in ahead[state]:
            open_ways[other] -= 1
            if open_ways[other] == 0:
                queue.append(other)
    return heights


def measured(ways, waits):
    """The waiting graph, and the heights in it: as many as states, or there is a loop."""
    graph = waiting_graph(ways, waits)
    return graph, heights_in(graph)


def greatest(heights):
    """The greatest number of calls, from the heights of all states, 0 if there is none."""
    return max(list(heights.values()), default=0)


def longest_way(graph, heights):
    """The first list of states that has the greatest number of calls."""
    way, row = [], list(graph)
    for height in range(greatest(heights), 0, -1):
        way.append([state for state in row if heights[state] == height][0])
        row = graph[way[-1]]
    return way


def is_heights(ways, waits, most, thing):
    """Whether a thing is a dict from situations that wait to heights, at the beginning at most a number."""
    if not is_over_waits(ways, waits, thing, lambda worth: is_from(worth, 1)):
        return False
    return holds(
        ways, waits, thing, is_first=lambda worth: worth <= most,
        is_later=lambda worth, later, switch: later < worth)
