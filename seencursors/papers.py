"""Papers: dicts from situations that wait, by which anybody can check what holds for all runs that wait."""

from seencursors.ways import situations


def spread(waits, worths):
    """The ascending dict from the situations that wait with some states, from a dict from these states."""
    return {(shape, moved, cursor): worths[(shape, cursor)]
            for shape, moved, cursor in sorted(situations(waits, list(worths)))}


def is_waiting(ways, waits, thing):
    """Whether a thing is a situation that waits."""
    return ways.is_situation(thing) and thing[1] in waits.get((thing[0], thing[2]), [])


def is_over_waits(ways, waits, thing, is_worth):
    """Whether a thing is a dict from situations that wait to what is a worth."""
    if not isinstance(thing, dict):
        return False
    return all([is_waiting(ways, waits, key) and is_worth(worth) for key, worth in thing.items()])


def holds(ways, waits, paper, is_first, is_later):
    """Whether a dict from situations that wait has all at the beginning, and all behind each that it has.

    is_first tells whether a worth may stand at the beginning; is_later, from a worth, one behind it, and whether
    the shape is another one, whether this may stand there.
    """
    if not all([key in paper and is_first(paper[key]) for key in situations(waits, ways.first())]):
        return False
    for (shape, _, cursor), worth in paper.items():
        for key in situations(waits, ways.behind((shape, cursor))):
            if key not in paper or not is_later(worth, paper[key], key[0] != shape):
                return False
    return True
