"""Clear traces: the shortest ones behind which nothing is in doubt, or a book that shows that there are none."""

from seencursors.bits import check_most, hashes_in, is_hash, is_int
from seencursors.courses import is_waiting_course, waiting_course
from seencursors.stories import first_clear_within, first_level, next_level, numbers_of
from seencursors.trails import cursors_along, fitting
from seencursors.ways import Ways

MOST_NUMBERS = 6


def ways_within(rule, road, most):
    """The ways of a rule and a road that are asked about traces of at most so many numbers, or one of the errors."""
    ways = Ways(rule, road)
    check_most(most, MOST_NUMBERS)
    return ways


def traces_within(ways, most):
    """The list of tuples of each trace of one to so many numbers, as a tuple, and the hashes in doubt behind it."""
    found, level = [], first_level(ways)
    for _ in range(most):
        level = next_level(ways, [], level)
        found.extend([(tuple(numbers_of(row[0])), row[2]) for row in level])
    return found


def first_clear(rule, road, most):
    """The first in ascending order of the shortest traces behind which nothing is in doubt, or None."""
    ways = ways_within(rule, road, most)
    story = first_clear_within(ways, [], most)
    return None if story is None else numbers_of(story)


def doubt_in(ways, trace, bits):
    """A tuple of a hash that is in doubt behind a trace and a run that shows it."""
    code, numbers = hashes_in(bits)[0], list(trace)
    return (code, waiting_course(ways, cursors_along(numbers), fitting(ways, numbers), code))


def doubt_book(rule, road, most):
    """A paper that behind each trace of one to so many numbers something is in doubt, or None if it is not so."""
    ways = ways_within(rule, road, most)
    if first_clear_within(ways, [], most) is not None:
        return None
    return {trace: doubt_in(ways, trace, bits) for trace, bits in sorted(traces_within(ways, most))}


def is_doubt(ways, trace, thing):
    """Whether a thing is a tuple of a hash and a run with a trace that waits for it."""
    if not isinstance(thing, tuple) or len(thing) != 2 or not is_hash(thing[0]):
        return False
    numbers = list(trace)
    return is_waiting_course(ways, cursors_along(numbers), numbers, thing[0], thing[1])


def is_key(traces, thing):
    """Whether a thing is one of the traces that are the keys of a dict."""
    # The tuple (True,) equals (1,), but is no trace.
    return isinstance(thing, tuple) and all([is_int(number) for number in thing]) and thing in traces


def is_doubt_book(rule, road, most, thing):
    """Whether a thing is a paper that behind each trace of one to so many numbers something is in doubt."""
    ways = ways_within(rule, road, most)
    if not isinstance(thing, dict):
        return False
    traces = {trace: True for trace, _ in traces_within(ways, most)}
    return len(thing) == len(traces) and all([
        is_key(traces, trace) and is_doubt(ways, trace, worth) for trace, worth in thing.items()])
