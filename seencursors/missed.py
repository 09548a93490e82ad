"""Missed keys: a run that misses a hash, or a paper that there is none."""

from seencursors.bits import check_hash
from seencursors.situations import check_match, first_situations, is_situation, later_of, lists_hash, next_situations


def check_question(rule, road, code):
    """Raise Mismatch, or InvalidHash."""
    check_match(rule, road)
    check_hash(code)


def situations_met(rule, road, code):
    """A dict from the situations of all calls up to the first that lists the hash to those ahead (None at first).

    Shorter ways come first, and ways of the same length in ascending order: so the first situation that is
    found to end a run that misses the hash ends the first of the shortest ones.
    """
    ahead = {situation: None for situation in first_situations(road)}
    queue = list(ahead)
    index = 0
    while index < len(queue):
        situation = queue[index]
        index += 1
        if lists_hash(rule, situation, code):
            continue
        for other in next_situations(rule, road, situation):
            if other not in ahead:
                ahead[other] = situation
                queue.append(other)
    return ahead


def run_to(ahead, situation):
    """The run that ends with a situation, from a dict to the situations ahead."""
    run = []
    while situation is not None:
        run.append(situation[:2])
        situation = ahead[situation]
    return run[::-1]


def first_missed(rule, code, ahead):
    """The first run of the situations that were met that misses the hash, or None."""
    for situation in ahead:
        if later_of(rule, situation) is None and not lists_hash(rule, situation, code):
            return run_to(ahead, situation)
    return None


def missed_run(rule, road, code):
    """The first in ascending order of the shortest runs that miss a hash, or None."""
    check_question(rule, road, code)
    return first_missed(rule, code, situations_met(rule, road, code))


def closed_set(rule, road, code):
    """A closed set for a hash, ascending, or None if a run misses it."""
    check_question(rule, road, code)
    ahead = situations_met(rule, road, code)
    return sorted(ahead) if first_missed(rule, code, ahead) is None else None


def is_covered(rule, road, code, situation, held):
    """Whether the call of a situation lists the hash, or goes on and all situations behind are held."""
    if lists_hash(rule, situation, code):
        return True
    if later_of(rule, situation) is None:
        return False
    return all([other in held for other in next_situations(rule, road, situation)])


def is_closed(rule, road, code, thing):
    """Whether a thing is a closed set for a hash, in any order."""
    check_question(rule, road, code)
    if not isinstance(thing, list) or not all([is_situation(rule, road, part) for part in thing]):
        return False
    held = {situation: True for situation in thing}
    if len(held) != len(thing) or not all([situation in held for situation in first_situations(road)]):
        return False
    return all([is_covered(rule, road, code, situation, held) for situation in thing])


def concerns(rule, road, code):
    """The ascending list of the states of all calls up to the first one that lists a hash."""
    check_question(rule, road, code)
    return sorted({(shape, cursor) for shape, moved, cursor in situations_met(rule, road, code)})
