"""Surprises: two runs that look alike, of which just one ends, or a set that shows that there are none."""

from seencursors.bits import is_number
from seencursors.missed import states_to
from seencursors.rules import END
from seencursors.ways import Ways


def twins_at_first(ways):
    """The ascending list of the tuples (shape, other, cursor) of all two first calls."""
    return [(shape, other, 0) for shape in ways.opening for other in ways.opening]


def numbers_at(ways, twins):
    """A tuple of the cursors with which two calls with the same cursor go on, each perhaps END."""
    shape, other, cursor = twins
    return (ways.numbers[shape][cursor], ways.numbers[other][cursor])


def twins_behind(ways, twins):
    """The ascending list of what can come behind two calls, none unless they go on with the same cursor."""
    number, match = numbers_at(ways, twins)
    if number == END or number != match:
        return []
    return [(later, further, number) for later in ways.following[twins[0]] for further in ways.following[twins[1]]]


def part_at_end(ways, twins):
    """Whether just one of two calls ends."""
    number, match = numbers_at(ways, twins)
    return (number == END) != (match == END)


def twins_met(ways):
    """A dict from the tuples (shape, other, cursor) of two runs that look alike to those ahead (None at first)."""
    ahead = {twins: None for twins in twins_at_first(ways)}
    queue = list(ahead)
    index = 0
    while index < len(queue):
        twins = queue[index]
        index += 1
        for later in twins_behind(ways, twins):
            if later not in ahead:
                ahead[later] = twins
                queue.append(later)
    return ahead


def first_parting(ways, ahead):
    """The first of what was met where the first call ends and the other one goes on, or None."""
    for twins in ahead:
        if part_at_end(ways, twins) and numbers_at(ways, twins)[0] == END:
            return twins
    return None


def surprise(rule, road):
    """A tuple of two shortest runs that look alike up to their last calls, of which the first one ends, or None."""
    ways = Ways(rule, road)
    ahead = twins_met(ways)
    twins = first_parting(ways, ahead)
    if twins is None:
        return None
    row = states_to(ahead, twins)
    return ([(pair[0], False) for pair in row], [(pair[1], False) for pair in row])


def calm_set(rule, road):
    """A paper that no two such runs part at an end, ascending, or None if two do."""
    ways = Ways(rule, road)
    ahead = twins_met(ways)
    return sorted(ahead) if first_parting(ways, ahead) is None else None


def is_twins(ways, thing):
    """Whether a thing is a tuple of two shapes of the road and a cursor of the rule."""
    if not isinstance(thing, tuple) or len(thing) != 3:
        return False
    return ways.has(thing[0]) and ways.has(thing[1]) and is_number(thing[2], 0, ways.many - 1)


def is_calm_set(rule, road, thing):
    """Whether a thing is a paper that no two runs that look alike part at an end, in any order."""
    ways = Ways(rule, road)
    if not isinstance(thing, list) or not all([is_twins(ways, twins) for twins in thing]):
        return False
    held = {twins: True for twins in thing}
    if len(held) != len(thing) or not all([twins in held for twins in twins_at_first(ways)]):
        return False
    if any([part_at_end(ways, twins) for twins in held]):
        return False
    return all([later in held for twins in held for later in twins_behind(ways, twins)])
