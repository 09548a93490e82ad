"""A model of runs in the document's words, apart from the program's way to find them, and worlds to try it in."""

import random

from seencursors.roads import Road
from seencursors.rules import Rule

from helpers import SHAPES, moved_with, places_of


def shapes_after(changes, shape):
    return sorted({shape} | {other for ahead, other in changes if ahead == shape})


def tells(calls, code, shape, moved, cursor):
    table = int(moved)
    return (table, code % 2 ** shape[table]) in calls[shape][cursor][0]


def runs_by_length(calls, begin, changes, most):
    """For each length, all tuples (run, cursors): the cursors of its calls, and the one behind (None behind an end)."""
    rows = [[([(shape, moved)], [0, calls[shape][0][1]]) for shape in begin for moved in moved_with(shape)]]
    while len(rows) < most:
        rows.append([
            (run + [(shape, moved)], cursors + [calls[shape][cursors[-1]][1]])
            for run, cursors in rows[-1] if cursors[-1] is not None
            for shape in shapes_after(changes, run[-1][0]) for moved in moved_with(shape)])
    return rows


def least_missed(calls, begin, changes, code, most):
    """The first of the shortest runs that miss a hash, by the least runs of each length to each situation."""
    level = {(shape, moved, 0): [(shape, moved)] for shape in begin for moved in moved_with(shape)}
    for _ in range(most):
        level = {part: run for part, run in level.items() if not tells(calls, code, *part)}
        ends = [run for (shape, moved, cursor), run in level.items() if calls[shape][cursor][1] is None]
        if ends:
            return min(ends)
        behind = {}
        for (shape, moved, cursor), run in level.items():
            for other in shapes_after(changes, shape):
                for after in moved_with(other):
                    part, longer = (other, after, calls[shape][cursor][1]), run + [(other, after)]
                    behind[part] = min(behind.get(part, longer), longer)
        level = behind
    return None


def is_closed_by_words(calls, begin, changes, code, rows):
    """Whether a list of right situations is a closed set, as the document puts it."""
    if len(rows) != len(set(rows)):
        return False
    for shape in begin:
        for moved in moved_with(shape):
            if (shape, moved, 0) not in rows:
                return False
    for shape, moved, cursor in rows:
        if not tells(calls, code, shape, moved, cursor):
            later = calls[shape][cursor][1]
            if later is None:
                return False
            for other in shapes_after(changes, shape):
                for after in moved_with(other):
                    if (other, after, later) not in rows:
                        return False
    return True


def some_calls(source, cursors, shapes, ends=0.3, tells_much=0.5):
    """The calls of a rule by a seeded source."""
    return {shape: [
        (tuple(place for place in places_of(shape) if source.random() < tells_much),
         None if source.random() < ends else source.randrange(cursors))
        for _ in range(cursors)] for shape in shapes}


def some_road(source, shapes):
    """The begin and the changes of a road by a seeded source."""
    begin = source.sample(shapes, source.randint(1, len(shapes)))
    pairs = [(shape, other) for shape in shapes for other in shapes if shape != other]
    return begin, source.sample(pairs, source.randint(0, len(pairs)))


def some_worlds(seed, count, widths=(0, 1, 2), most_cursors=3, most_shapes=3):
    """Tuples (cursors, calls, begin, changes, rule, road), the same each time."""
    source = random.Random(seed)
    shapes = [shape for shape in SHAPES if set(shape) <= set(widths)]
    worlds = []
    for _ in range(count):
        chosen = source.sample(shapes, source.randint(1, most_shapes))
        cursors = source.randint(1, most_cursors)
        calls = some_calls(source, cursors, chosen, source.choice([0.0, 0.2, 0.5]), source.choice([0.3, 0.6, 0.9]))
        begin, changes = some_road(source, chosen)
        worlds.append((cursors, calls, begin, changes, Rule(cursors, calls), Road(begin, changes)))
    return worlds
