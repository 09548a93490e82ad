"""A model of runs in the document's words, apart from the program's way to find them, and worlds to try it in."""

import random

from seencursors.roads import Road
from seencursors.rules import Rule

from helpers import SHAPES, moved_with, places_of


class World:
    """A rule and a road by their plain parts, and what the document says of their situations."""

    def __init__(self, cursors, calls, begin, changes):
        self.cursors, self.calls, self.begin, self.changes = cursors, calls, begin, changes
        self.rule, self.road = Rule(cursors, calls), Road(begin, changes)
        self.shapes = sorted(set(begin) | {shape for change in changes for shape in change})

    def after(self, shape):
        return sorted({shape} | {other for ahead, other in self.changes if ahead == shape})

    def later(self, part):
        shape, _, cursor = part
        return self.calls[shape][cursor][1]

    def tells(self, code, part):
        shape, moved, cursor = part
        return (int(moved), code % 2 ** shape[moved]) in self.calls[shape][cursor][0]

    def first(self, code=None):
        """The situations at the beginning, with a hash those of them that wait for it."""
        return self.of(self.begin, 0, code)

    def behind(self, part, code=None):
        """The situations behind one, with a hash those of them that wait for it."""
        return [] if self.later(part) is None else self.of(self.after(part[0]), self.later(part), code)

    def of(self, shapes, cursor, code):
        parts = [(shape, moved, cursor) for shape in shapes for moved in moved_with(shape)]
        return sorted(part for part in parts if code is None or not self.tells(code, part))

    def situations(self):
        return [part for cursor in range(self.cursors) for part in self.of(self.shapes, cursor, None)]

    def levels(self, code, most):
        """For each number of calls the situations in which a run that waits and has so many can be."""
        rows = [set(self.first(code))]
        while len(rows) < most:
            rows.append({part for ahead in rows[-1] for part in self.behind(ahead, code)})
        return rows

    def longest(self, code):
        """The greatest number of calls of a run that waits, or None."""
        rows = self.levels(code, len(self.situations()) + 1)
        return None if rows[-1] else sum(1 for row in rows if row)

    def misses(self, code, most=None):
        """A dict from the pairs (switches, calls) of runs that miss a hash to the first run that has each."""
        found, level = {}, {(part, 0): [part[:2]] for part in self.first(code)}
        for calls in range(1, (most or len(self.calls) * self.cursors + 1) + 1):
            further = {}
            for (part, many), run in level.items():
                if self.later(part) is None:
                    found[(many, calls)] = min(found.get((many, calls), run), run)
                for other in self.behind(part, code):
                    key, longer = (other, many + (other[0] != part[0])), run + [other[:2]]
                    further[key] = min(further.get(key, longer), longer)
            level = further
        return found

    def least_missed(self, code, most=None):
        """The first of the shortest runs that miss a hash, or None."""
        level = {part: [part[:2]] for part in self.first(code)}
        for _ in range(most or len(self.calls) * self.cursors):
            ends = [run for part, run in level.items() if self.later(part) is None]
            if ends:
                return min(ends)
            further = {}
            for part, run in level.items():
                for other in self.behind(part, code):
                    longer = run + [other[:2]]
                    further[other] = min(further.get(other, longer), longer)
            level = further
        return None

    def runs(self, most):
        """All tuples (run, situations) of the runs of at most so many calls."""
        found, level = [], [[part] for part in self.first()]
        for _ in range(most):
            found.extend(([part[:2] for part in parts], parts) for parts in level)
            level = [parts + [other] for parts in level for other in self.behind(parts[-1])]
        return found

    def trace(self, parts):
        return [-1 if self.later(part) is None else self.later(part) for part in parts]

    def waits(self, code, parts):
        return not any(self.tells(code, part) for part in parts)

    def by_trace(self, most):
        """A dict from the traces of at most so many numbers, as tuples, to what runs returns of each."""
        found = {}
        for run, parts in self.runs(most):
            found.setdefault(tuple(self.trace(parts)), []).append((run, parts))
        return found


def is_integer(thing, least=0):
    return isinstance(thing, int) and not isinstance(thing, bool) and thing >= least


def are_heights(world, code, most, paper, goes_on=False):
    """[18], for a dict whose keys are situations; with goes_on as the dicts of [24]."""
    def counts(part):
        return not world.tells(code, part) and (not goes_on or world.later(part) is not None)
    if not all(counts(part) and is_integer(height, 1) for part, height in paper.items()):
        return False
    if not all(part in paper and paper[part] <= most for part in world.first() if counts(part)):
        return False
    return all(other in paper and paper[other] < height
               for part, height in paper.items() for other in world.behind(part) if counts(other))


def are_levels(world, code, number, paper):
    """[19], for a dict whose keys are situations."""
    if not all(not world.tells(code, part) and is_integer(level) for part, level in paper.items()):
        return False
    if not all(part in paper and paper[part] == 0 for part in world.first(code)):
        return False
    if not all(level >= number for part, level in paper.items() if world.later(part) is None):
        return False
    return all(other in paper and paper[other] <= level + (1 if other[0] != part[0] else 0)
               for part, level in paper.items() for other in world.behind(part, code))


def as_good(pairs, other):
    return any(pair[0] <= other[0] and pair[1] <= other[1] for pair in pairs)


def are_pairs(thing):
    return isinstance(thing, list) and all(
        isinstance(pair, tuple) and len(pair) == 2 and all(is_integer(number) for number in pair) for pair in thing)


def are_fronts(world, code, pairs, paper):
    """[20], for a dict whose keys are situations."""
    if not all(not world.tells(code, part) and are_pairs(row) for part, row in paper.items()):
        return False
    if not all(part in paper and as_good(paper[part], (0, 1)) for part in world.first(code)):
        return False
    for part, row in paper.items():
        for many, calls in row:
            if world.later(part) is None and not as_good(pairs, (many, calls)):
                return False
            for other in world.behind(part, code):
                further = (many + (1 if other[0] != part[0] else 0), calls + 1)
                if other not in paper or not as_good(paper[other], further):
                    return False
    return True


def is_chain_of(world, trace, fits, lists):
    """What [22] and [23] ask of lists of shapes of the road, where fits(index, shape) tells which must be there."""
    if not trace or len(lists) != len(trace) or lists[-1] or not all(row == sorted(set(row)) for row in lists):
        return False
    for index, row in enumerate(lists):
        ahead = world.begin if index == 0 else [other for shape in lists[index - 1] for other in world.after(shape)]
        if not all(shape in row for shape in ahead if fits(index, shape)):
            return False
    return True


def fits_number(world, trace, index, shape):
    cursor = trace[index - 1] if index else 0
    later = world.calls[shape][cursor][1]
    return (-1 if later is None else later) == trace[index]


def is_chain(world, trace, code, lists):
    def fits(index, shape):
        cursor = trace[index - 1] if index else 0
        return fits_number(world, trace, index, shape) and any(
            not world.tells(code, (shape, moved, cursor)) for moved in moved_with(shape))
    return is_chain_of(world, trace, fits, lists)


def is_barrier(world, trace, at, shape, lists):
    def fits(index, other):
        return fits_number(world, trace, index, other) and (index != at or other == shape)
    return is_chain_of(world, trace, fits, lists)


def is_closed_by_words(world, code, rows):
    """Whether a list of right situations is a closed set, as the document puts it."""
    if len(rows) != len(set(rows)) or not all(part in rows for part in world.first()):
        return False
    return all(world.later(part) is not None and all(other in rows for other in world.behind(part))
               for part in rows if not world.tells(code, part))


def some_calls(source, cursors, shapes, ends=0.3, tells_much=0.5):
    """The calls of a rule by a seeded source."""
    return {shape: [
        (tuple(place for place in places_of(shape) if source.random() < tells_much),
         None if source.random() < ends else source.randrange(cursors))
        for _ in range(cursors)] for shape in shapes}


def some_road(source, shapes):
    """The begin and the changes of a road by a seeded source."""
    begin = source.sample(shapes, source.randint(1, len(shapes)))
    pairs = [(shape, other) for shape in shapes for other in shapes if shape != other]
    return begin, source.sample(pairs, source.randint(0, len(pairs)))


def some_worlds(seed, count, widths=(0, 1, 2), most_cursors=3, most_shapes=3, ends=(0.0, 0.2, 0.5),
                tells=(0.3, 0.6, 0.9)):
    """Worlds by a seed, the same each time."""
    source = random.Random(seed)
    shapes = [shape for shape in SHAPES if set(shape) <= set(widths)]
    worlds = []
    for _ in range(count):
        chosen = source.sample(shapes, source.randint(1, most_shapes))
        cursors = source.randint(1, most_cursors)
        calls = some_calls(source, cursors, chosen, source.choice(ends), source.choice(tells))
        worlds.append(World(cursors, calls, *some_road(source, chosen)))
    return worlds


def long_worlds(seed, count, cursors=8, lists_all=0.2, steps=(1, 1, 2, 3)):
    """Worlds by which many switches pay, as listings go on with greater cursors, and shapes take other steps."""
    source, worlds = random.Random(seed), []
    for _ in range(count):
        chosen = source.sample([(0,), (1,), (0, 1), (1, 0), (2,)], 3)
        calls = {shape: [] for shape in chosen}
        for shape, at in [(shape, at) for shape in chosen for at in range(cursors)]:
            tells_much = source.choice([0.5] + [1.0] * round(5 * lists_all) + [0.0] * round(5 - 5 * lists_all))
            later = at + source.choice(steps) if source.random() < 0.9 else source.randrange(cursors)
            calls[shape].append((tuple(place for place in places_of(shape) if source.random() < tells_much),
                                 later if later < cursors else None))
        pairs = [(shape, other) for shape in chosen for other in chosen if shape != other]
        changes = [pair for pair in pairs if source.random() < 0.7]
        worlds.append(World(cursors, calls, source.sample(chosen, source.randint(1, 2)), changes))
    return worlds
