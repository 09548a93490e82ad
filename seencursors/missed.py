"""Missed keys: a run that misses a hash, or a paper that there is none."""

from seencursors.bits import check_hash
from seencursors.rules import END
from seencursors.shapes import moves
from seencursors.ways import Ways, first_run


def ways_asked(rule, road, code):
    """The ways of a rule and a road that are asked about a hash, or Mismatch, or InvalidHash."""
    ways = Ways(rule, road)
    check_hash(code)
    return ways


def states_met(ways, waits):
    """A dict from the states of all calls up to the first that lists the hash to those ahead (None at first).

    Shorter ways come first, and ways of the same length in ascending order: so the first state that is found to
    end a run that misses the hash ends the first of the shortest ones.
    """
    ahead = {state: None for state in ways.first()}
    queue = list(ahead)
    index = 0
    while index < len(queue):
        state = queue[index]
        index += 1
        if state not in waits:
            continue
        for other in ways.behind(state):
            if other not in ahead:
                ahead[other] = state
                queue.append(other)
    return ahead


def states_to(ahead, state):
    """The list of the states up to one, from a dict to the states ahead."""
    row = []
    while state is not None:
        row.append(state)
        state = ahead[state]
    return row[::-1]


def first_missed(ways, waits, ahead):
    """The first of the states that were met that ends a run that misses the hash, or None."""
    for state in ahead:
        if state in waits and ways.number(state) == END:
            return state
    return None


def missed_run(rule, road, code):
    """The first in ascending order of the shortest runs that miss a hash, or None."""
    ways = ways_asked(rule, road, code)
    waits = ways.waits(code)
    ahead = states_met(ways, waits)
    state = first_missed(ways, waits, ahead)
    return None if state is None else first_run(waits, states_to(ahead, state))


def closed_set(rule, road, code):
    """A closed set for a hash, ascending, or None if a run misses it."""
    ways = ways_asked(rule, road, code)
    waits = ways.waits(code)
    ahead = states_met(ways, waits)
    if first_missed(ways, waits, ahead) is not None:
        return None
    return sorted([(shape, moved, cursor) for shape, cursor in ahead for moved in moves(shape)])


def is_covered(ways, waits, situation, held):
    """Whether the call of a situation lists the hash, or goes on and all situations behind are held."""
    shape, moved, cursor = situation
    state = (shape, cursor)
    if moved not in waits.get(state, []):
        return True
    return ways.number(state) != END and are_held(ways.behind(state), held)


def are_held(states, held):
    """Whether all situations with some states are held."""
    return all([(shape, moved, cursor) in held for shape, cursor in states for moved in moves(shape)])


def is_closed(rule, road, code, thing):
    """Whether a thing is a closed set for a hash, in any order."""
    ways = ways_asked(rule, road, code)
    if not isinstance(thing, list) or not all([ways.is_situation(part) for part in thing]):
        return False
    held = {situation: True for situation in thing}
    if len(held) != len(thing) or not are_held(ways.first(), held):
        return False
    waits = ways.waits(code)
    return all([is_covered(ways, waits, situation, held) for situation in thing])


def concerns(rule, road, code):
    """The ascending list of the states of all calls up to the first one that lists a hash."""
    ways = ways_asked(rule, road, code)
    return sorted(states_met(ways, ways.waits(code)))
