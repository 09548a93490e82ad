"""Runs: what a key meets while a listing goes on."""

from seencursors.bits import check_hash
from seencursors.errors import InvalidRun
from seencursors.situations import check_match, is_step, later_of, lists_hash


def is_run(rule, road, thing):
    """Whether a thing is a run on a road by a rule."""
    check_match(rule, road)
    if not isinstance(thing, list) or len(thing) == 0:
        return False
    shapes, cursor = road.begin, 0
    for step in thing:
        if cursor is None or not is_step(shapes, step):
            return False
        shape, moved = step
        shapes, cursor = road.behind(shape), later_of(rule, (shape, moved, cursor))
    return True


def situations_of(rule, road, run):
    """The list of the situations of the calls of a run."""
    if not is_run(rule, road, run):
        raise InvalidRun("this is no run on the road by the rule")
    found, cursor = [], 0
    for shape, moved in run:
        found.append((shape, moved, cursor))
        cursor = later_of(rule, found[-1])
    return found


def cursors_of(rule, road, run):
    """The list of the cursors with which the calls of a run are made."""
    return [cursor for shape, moved, cursor in situations_of(rule, road, run)]


def lists_of(rule, road, run):
    """The list of the tuples of places that the calls of a run list."""
    return [rule.call(shape, cursor)[0] for shape, moved, cursor in situations_of(rule, road, run)]


def is_whole(rule, road, run):
    """Whether the last call of a run ends the listing."""
    return later_of(rule, situations_of(rule, road, run)[-1]) is None


def listed(rule, road, run, code):
    """The list of a bool for each call of a run: whether it lists a hash."""
    situations = situations_of(rule, road, run)
    check_hash(code)
    return [lists_hash(rule, situation, code) for situation in situations]
