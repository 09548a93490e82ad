"""Trades: runs that miss a hash with more switches, but by fewer calls."""

from seencursors.bits import is_from
from seencursors.errors import InvalidPairs
from seencursors.heights import waiting_graph
from seencursors.missed import ways_asked
from seencursors.papers import holds, is_over_waits, spread
from seencursors.rules import END
from seencursors.switches import ends_in, is_switch
from seencursors.ways import first_run


def rounds_of(ways, graph):
    """For each number of calls, from 1 on, what runs that wait come to by it with fewer switches than by fewer calls.

    It is a list of dicts from states to tuples: the least number of switches, and the state ahead (None at first).
    """
    best, rounds = {}, []
    met = {state: (0, None) for state in ways.first() if state in graph}
    while met:
        rounds.append(met)
        for state, (switches, _) in met.items():
            best[state] = switches
        met = next_round(graph, met, best)
    return rounds


def next_round(graph, met, best):
    """What is met by one call more, as in rounds_of, with fewer switches than the best so far."""
    further = {}
    for state, (switches, _) in met.items():
        for other in graph[state]:
            many = switches + int(is_switch(state, other))
            least = further[other][0] if other in further else best.get(other, many + 1)
            if many < least:
                further[other] = (many, state)
    return further


def way_to(rounds, index, state):
    """The list of the states up to one that is met in the round with an index."""
    way = []
    for met in rounds[index::-1]:
        way.append(state)
        state = met[state][1]
    return way[::-1]


def trade(rule, road, code):
    """The list, ascending by switches, of tuples (switches, calls, run) of the best runs that miss a hash."""
    ways = ways_asked(rule, road, code)
    waits = ways.waits(code)
    graph = waiting_graph(ways, waits)
    rounds = rounds_of(ways, graph)
    found = []
    for index, met in enumerate(rounds):
        ends = [(met[state][0], state) for state in ends_in(ways, met)]
        if ends and (not found or min(ends)[0] < found[-1][0]):
            switches, state = min(ends)
            found.append((switches, index + 1, first_run(waits, way_to(rounds, index, state))))
    return found[::-1]


def is_pair(thing):
    """Whether a thing is a tuple of two integers from 0 on."""
    if not isinstance(thing, tuple) or len(thing) != 2:
        return False
    return is_from(thing[0], 0) and is_from(thing[1], 0)


def are_pairs(thing):
    """Whether a thing is a list of pairs, perhaps of equal ones."""
    return isinstance(thing, list) and all([is_pair(pair) for pair in thing])


def check_pairs(pairs):
    """Raise InvalidPairs if the pairs are no list of different pairs."""
    if not are_pairs(pairs) or len(set(pairs)) != len(pairs):
        raise InvalidPairs("the pairs are a list of different tuples of two integers from 0 on")


def best_of(pairs):
    """The ascending list of those of some pairs that no other one is as good as: calls fall where switches rise."""
    found = []
    for pair in sorted(pairs):
        if not found or pair[1] < found[-1][1]:
            found.append(pair)
    return found


def covers(pairs, others):
    """Whether for each of other pairs one of the pairs is as good, both lists as of best_of."""
    index = -1
    for switches, calls in others:
        while index + 1 < len(pairs) and pairs[index + 1][0] <= switches:
            index += 1
        if index < 0 or pairs[index][1] > calls:
            return False
    return True


def behind_pairs(pairs, switch):
    """The pairs behind some pairs, by one call more, and perhaps by one switch more."""
    return [(switches + int(switch), calls + 1) for switches, calls in pairs]


def are_ends_covered(ways, paper, pairs):
    """Whether one of some pairs is as good as each pair of each situation whose call ends, all lists as of best_of."""
    return all([covers(pairs, best) for (shape, _, cursor), best in paper.items()
                if ways.number((shape, cursor)) == END])


def fronts(rule, road, code, pairs):
    """A paper that for each run that misses a hash one of some pairs is as good as its own, or None."""
    ways = ways_asked(rule, road, code)
    check_pairs(pairs)
    waits = ways.waits(code)
    graph = waiting_graph(ways, waits)
    found = {state: [] for state in graph}
    for index, met in enumerate(rounds_of(ways, graph)):
        for state, (switches, _) in met.items():
            found[state].append((switches, index + 1))
    paper = {key: best_of(row) for key, row in spread(waits, found).items()}
    return paper if are_ends_covered(ways, paper, best_of(pairs)) else None


def is_fronts(rule, road, code, pairs, thing):
    """Whether a thing is a paper that for each run that misses a hash one of some pairs is as good as its own."""
    ways = ways_asked(rule, road, code)
    check_pairs(pairs)
    waits = ways.waits(code)
    if not is_over_waits(ways, waits, thing, are_pairs):
        return False
    # Behind a key without pairs nothing is asked for, and where a pair is asked for it has none.
    paper = {key: best_of(row) for key, row in thing.items() if row}
    return are_ends_covered(ways, paper, best_of(pairs)) and holds(
        ways, waits, paper, is_first=lambda best: covers(best, [(0, 1)]),
        is_later=lambda best, later, switch: covers(later, behind_pairs(best, switch)))
