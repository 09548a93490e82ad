"""Runs: what a key meets while a listing goes on."""

from seencursors.bits import check_hash
from seencursors.errors import InvalidRun
from seencursors.rules import END
from seencursors.ways import Ways


def situations_in(ways, thing):
    """The list of the situations of the calls of a run, or None if a thing is no run."""
    if not isinstance(thing, list) or len(thing) == 0:
        return None
    found, shapes, cursor = [], ways.opening, 0
    for step in thing:
        if cursor == END or not ways.is_step(step):
            return None
        shape, moved = step
        if shape not in shapes:
            return None
        found.append((shape, moved, cursor))
        shapes, cursor = ways.following[shape], ways.numbers[shape][cursor]
    return found


def situations_of(ways, run):
    """The list of the situations of the calls of a run, or InvalidRun."""
    found = situations_in(ways, run)
    if found is None:
        raise InvalidRun("this is no run on the road by the rule")
    return found


def is_run(rule, road, thing):
    """Whether a thing is a run on a road by a rule."""
    return situations_in(Ways(rule, road), thing) is not None


def cursors_of(rule, road, run):
    """The list of the cursors with which the calls of a run are made."""
    return [situation[2] for situation in situations_of(Ways(rule, road), run)]


def lists_of(rule, road, run):
    """The list of the tuples of places that the calls of a run list."""
    calls = rule.calls
    return [calls[shape][cursor][0] for shape, _, cursor in situations_of(Ways(rule, road), run)]


def is_whole(rule, road, run):
    """Whether the last call of a run ends the listing."""
    ways = Ways(rule, road)
    shape, _, cursor = situations_of(ways, run)[-1]
    return ways.numbers[shape][cursor] == END


def listed(rule, road, run, code):
    """The list of a bool for each call of a run: whether it lists a hash."""
    ways = Ways(rule, road)
    found = situations_of(ways, run)
    check_hash(code)
    # Moved is the index of the table in which the key is.
    return [not ways.lacks[shape][cursor][moved] >> code & 1 for shape, moved, cursor in found]
