"""What one sees, in the document's words and by all rows of shapes call by call: traces, stories and courses."""

import itertools

from helpers import moved_with

ALL = frozenset(range(32))


def number_of(world, shape, cursor):
    later = world.calls[shape][cursor][1]
    return -1 if later is None else later


def left_of(world, shape, cursor):
    """The hashes that a call can leave out."""
    return frozenset(code for code in ALL if any(
        not world.tells(code, (shape, moved, cursor)) for moved in moved_with(shape)))


def walks(world, most):
    """All tuples (shapes, cursors, numbers, hashes left) of the calls of runs, one to so many."""
    found, level = [], [((), (), (), ALL)]
    for _ in range(most):
        further = []
        for shapes, cursors, numbers, left in level:
            if numbers[-1:] == (-1,):
                continue
            cursor = numbers[-1] if numbers else 0
            for shape in world.after(shapes[-1]) if shapes else sorted(world.begin):
                further.append((shapes + (shape,), cursors + (cursor,), numbers + (number_of(world, shape, cursor),),
                                left & left_of(world, shape, cursor)))
        found.extend(further)
        level = further
    return found


def doubts_by_trace(world, most):
    """A dict from the tuples of the numbers of all traces, one to so many, to the sets of the hashes in doubt."""
    found = {}
    for _, _, numbers, left in walks(world, most):
        found[numbers] = found.get(numbers, frozenset()) | left
    return found


def first_of(found):
    """The first in ascending order of the shortest keys without a hash in doubt, as a list, or None."""
    clear = [(len(key), key) for key, codes in found.items() if not codes]
    return list(min(clear)[1]) if clear else None


def is_run_of(world, numbers, code, run):
    """Whether a list of right steps is a run with a trace that waits for a hash."""
    shapes = [shape for shape, _ in run]
    return is_course_of(world, ([0] + list(numbers))[:len(numbers)], numbers, code, run) and len(shapes) > 0


def is_course_of(world, cursors, answers, code, course):
    """Whether a list is a course for some cursors that has these answers and waits for a hash."""
    if not isinstance(course, list) or len(course) != len(cursors):
        return False
    for index, step in enumerate(course):
        if not isinstance(step, tuple) or len(step) != 2 or step[0] not in world.shapes:
            return False
        shape, moved = step
        if not isinstance(shape, tuple) or any(isinstance(width, bool) for width in shape):
            return False
        if not isinstance(moved, bool) or moved not in moved_with(shape):
            return False
        if shape not in (world.after(course[index - 1][0]) if index else world.begin):
            return False
        if number_of(world, shape, cursors[index]) != answers[index]:
            return False
        if world.tells(code, (shape, moved, cursors[index])):
            return False
    return True


def sights_of(world, shape, cursor, marks):
    """The set of the sights that a call fits."""
    found = set()
    for told in itertools.product([False, True], repeat=len(marks)):
        if all(any(world.tells(code, (shape, moved, cursor)) == one for moved in moved_with(shape))
               for code, one in zip(marks, told)):
            found.add((number_of(world, shape, cursor), told))
    return found


def stories(world, marks, most):
    """A dict from all stories of one to so many sights, as tuples, to the lists of what walks returns of each."""
    found = {}
    for walk in walks(world, most):
        shapes, cursors, _, _ = walk
        rows = [sights_of(world, shape, cursor, marks) for shape, cursor in zip(shapes, cursors)]
        for story in itertools.product(*rows):
            found.setdefault(story, []).append(walk)
    return found


def codes_in(rows):
    """All hashes that some of the rows of walks leave."""
    return frozenset().union(*[left for _, _, _, left in rows])


def is_witness_of(world, marks, story, code, thing):
    """[28], for a tuple of two lists."""
    run, moves = thing
    numbers = [number for number, _ in story]
    cursors = ([0] + numbers)[:len(numbers)]
    if not is_course_of(world, cursors, numbers, code, run) or len(moves) != len(marks):
        return False
    for at, row in enumerate(moves):
        if not isinstance(row, list) or len(row) != len(story):
            return False
        for index, moved in enumerate(row):
            shape = run[index][0]
            if not isinstance(moved, bool) or moved not in moved_with(shape):
                return False
            if world.tells(marks[at], (shape, moved, cursors[index])) != story[index][1][at]:
                return False
    return True


def courses(world, cursors):
    """A dict from the tuples of answers that can come for some cursors to the sets of the hashes in doubt then."""
    level = [((), (), ALL)]
    for cursor in cursors:
        level = [(shapes + (shape,), answers + (number_of(world, shape, cursor),), left & left_of(world, shape, cursor))
                 for shapes, answers, left in level
                 for shape in (world.after(shapes[-1]) if shapes else world.begin)]
    found = {}
    for _, answers, left in level:
        found[answers] = found.get(answers, frozenset()) | left
    return found


class Callers:
    """What one knows who may call with any cursor in a world."""

    def __init__(self, world):
        self.world, self.known = world, {}

    def come(self, cursors):
        if cursors not in self.known:
            self.known[cursors] = courses(self.world, cursors)
        return self.known[cursors]

    def next_answers(self, cursors, answers):
        """The ascending list of the answers that can come to the last cursor behind these answers."""
        return sorted(row[-1] for row in self.come(cursors) if row[:-1] == answers)

    def can(self, most, cursors=(), answers=()):
        """Whether there is a plan for so many calls behind some calls."""
        if not self.come(cursors)[answers]:
            return True
        return most > 0 and any(
            all(self.can(most - 1, cursors + (cursor,), answers + (answer,))
                for answer in self.next_answers(cursors + (cursor,), answers))
            for cursor in range(self.world.cursors))

    def is_plan(self, most, tree, cursors=(), answers=()):
        """[29], for a tuple whose first part is a word."""
        if tree == ("stop",):
            return not self.come(cursors)[answers]
        if not isinstance(tree, tuple) or len(tree) != 3 or tree[0] != "call" or most == 0:
            return False
        _, cursor, branches = tree
        if isinstance(cursor, bool) or cursor not in range(self.world.cursors):
            return False
        further = cursors + (cursor,)
        if [answer for answer, _ in branches] != self.next_answers(further, answers):
            return False
        if any(isinstance(answer, bool) for answer, _ in branches):
            return False
        return all(self.is_plan(most - 1, part, further, answers + (answer,)) for answer, part in branches)

    def is_holdout(self, most, paper):
        """[30], for a dict from tuples of integers to tuples of a tuple of integers, an integer, and a list."""
        if set(paper) != set(itertools.product(range(self.world.cursors), repeat=most)):
            return False
        for cursors, (answers, code, course) in paper.items():
            if len(answers) != most or code not in ALL:
                return False
            if not is_course_of(self.world, cursors, answers, code, course):
                return False
        return all(row[0][:at] == other[0][:at]
                   for cursors, row in paper.items() for keys, other in paper.items()
                   for at in range(most + 1) if cursors[:at] == keys[:at])
