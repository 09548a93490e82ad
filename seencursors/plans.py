"""Plans: how one who may call with any cursor can be sure in a number of calls, or a paper that nobody can."""

from seencursors.bits import ALL_HASHES, check_most, hashes_in, is_hash, is_int, is_number
from seencursors.courses import is_waiting_course, waiting_course
from seencursors.trails import fitting_calls
from seencursors.views import bits_in, first_view, left_by_number, next_view
from seencursors.ways import Ways

MOST_CALLS = 3


def ways_called(rule, road, most):
    """The ways of a rule and a road that are asked about a number of calls, or one of the errors."""
    ways = Ways(rule, road)
    check_most(most, MOST_CALLS)
    return ways


def branches_with(ways, view, cursor, calls):
    """The branches of a call with a cursor, with at most so many calls behind it, or None if one lacks a tree."""
    branches = []
    for number, here in left_by_number(ways, view, cursor).items():
        tree = tree_for(ways, next_view(ways, here), bits_in(here), calls)
        if tree is None:
            return None
        branches.append((number, tree))
    return branches


def tree_for(ways, view, bits, calls):
    """A tree with at most so many calls on each way, at each of whose stops nothing is in doubt, or None.

    The view tells what is in doubt with each shape at the next call, bits all that is in doubt ahead of it.
    """
    if bits == 0:
        return ("stop",)
    if calls > 0:
        for cursor in range(ways.many):
            branches = branches_with(ways, view, cursor, calls - 1)
            if branches is not None:
                return ("call", cursor, branches)
    return None


def plan(rule, road, most):
    """A plan for a number of calls, or None if there is none."""
    ways = ways_called(rule, road, most)
    return tree_for(ways, first_view(ways), ALL_HASHES, most)


def is_branch(ways, number, here, calls, thing):
    """Whether a thing is a tuple of an answer and a right tree behind it with at most so many calls."""
    if not isinstance(thing, tuple) or len(thing) != 2 or not is_int(thing[0]) or thing[0] != number:
        return False
    return is_tree(ways, next_view(ways, here), bits_in(here), calls, thing[1])


def is_tree(ways, view, bits, calls, thing):
    """Whether a thing is a tree as tree_for returns one."""
    if not isinstance(thing, tuple) or len(thing) not in (1, 3):
        return False
    if len(thing) == 1:
        return thing[0] == "stop" and bits == 0
    word, cursor, branches = thing
    if word != "call" or calls == 0 or not is_number(cursor, 0, ways.many - 1) or not isinstance(branches, list):
        return False
    left = left_by_number(ways, view, cursor)
    return len(branches) == len(left) and all([
        is_branch(ways, number, here, calls - 1, branch) for (number, here), branch in zip(left.items(), branches)])


def is_plan(rule, road, most, thing):
    """Whether a thing is a plan for a number of calls."""
    ways = ways_called(rule, road, most)
    return is_tree(ways, first_view(ways), ALL_HASHES, most, thing)


def rows_with(ways, view, cursor, calls):
    """What rows_held returns, for one number that a call with a cursor can go on with, this call ahead, or None."""
    for number, here in left_by_number(ways, view, cursor).items():
        rows = rows_held(ways, next_view(ways, here), bits_in(here), calls)
        if rows is not None:
            return [((cursor,) + cursors, (number,) + answers, code) for cursors, answers, code in rows]
    return None


def rows_held(ways, view, bits, calls):
    """A list of tuples (cursors, answers, code) for all rows of so many cursors, ascending, or None.

    The answers keep the hash in doubt, and those to rows that begin alike begin alike.
    """
    if bits == 0:
        return None
    if calls == 0:
        return [((), (), hashes_in(bits)[0])]
    found = []
    for cursor in range(ways.many):
        rows = rows_with(ways, view, cursor, calls - 1)
        if rows is None:
            return None
        found.extend(rows)
    return found


def holdout(rule, road, most):
    """A paper that there is no plan for a number of calls, or None if there is one."""
    ways = ways_called(rule, road, most)
    rows = rows_held(ways, first_view(ways), ALL_HASHES, most)
    if rows is None:
        return None
    return {cursors: (answers, code, waiting_course(ways, cursors, fitting_calls(ways, cursors, answers), code))
            for cursors, answers, code in rows}


def is_row(ways, most, thing):
    """Whether a thing is a tuple of so many cursors."""
    if not isinstance(thing, tuple) or len(thing) != most:
        return False
    return all([is_number(cursor, 0, ways.many - 1) for cursor in thing])


def is_held(ways, cursors, thing):
    """Whether a thing is a tuple of answers to some cursors, a hash, and a course that has these and waits for it."""
    if not isinstance(thing, tuple) or len(thing) != 3:
        return False
    answers, code, course = thing
    if not isinstance(answers, tuple) or len(answers) != len(cursors) or not is_hash(code):
        return False
    return all([is_int(answer) for answer in answers]) and is_waiting_course(ways, cursors, answers, code, course)


def begin_alike(paper):
    """Whether the answers to all rows of cursors that begin alike begin alike, as far as they do."""
    known = {}
    for cursors, worth in paper.items():
        answers = worth[0]
        for most in range(1, len(cursors) + 1):
            if known.setdefault(cursors[:most], answers[:most]) != answers[:most]:
                return False
    return True


def count_of_rows(many, most):
    """How many rows of so many cursors there are."""
    count = 1
    for _ in range(most):
        count *= many
    return count


def is_holdout(rule, road, most, thing):
    """Whether a thing is a paper that there is no plan for a number of calls."""
    ways = ways_called(rule, road, most)
    if not isinstance(thing, dict) or len(thing) != count_of_rows(ways.many, most):
        return False
    return all([is_row(ways, most, cursors) and is_held(ways, cursors, worth)
                for cursors, worth in thing.items()]) and begin_alike(thing)
