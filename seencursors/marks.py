"""Marks: what one knows more who knows of some keys that they stay."""

from seencursors.bits import check_hash, check_most, hashes_in
from seencursors.courses import is_waiting_course, leaving, waiting_course
from seencursors.errors import InvalidStory
from seencursors.rules import END
from seencursors.shapes import is_move, moves
from seencursors.stories import (
    check_marks, cursors_in, first_clear_within, fitting_sights, is_right, numbers_of, sights_with)
from seencursors.trails import after, closed_way, is_closed_way, reached
from seencursors.views import bits_along
from seencursors.ways import Ways

MOST_SIGHTS = 3


def sights(rule, shape, cursor, marks):
    """The ascending list of the sights that the call with a shape and a cursor fits."""
    # A rule refuses a shape and a cursor that it does not have.
    rule.call(shape, cursor)
    check_marks(marks)
    return sights_with(rule.numbers_with(shape)[cursor], rule.gaps_with(shape)[cursor], marks)


def ways_marked(rule, road, marks):
    """The ways of a rule and a road that are asked by one with marks, or one of the errors."""
    ways = Ways(rule, road)
    check_marks(marks)
    return ways


def ways_seen(rule, road, marks, story):
    """The ways of a rule and a road that are asked about a story, or one of the errors."""
    ways = ways_marked(rule, road, marks)
    if not is_right(ways, marks, story):
        raise InvalidStory("this is no story on the road by the rule")
    return ways


def ways_doubted(rule, road, marks, story, code):
    """The ways of a rule and a road that are asked about a story and a hash, or one of the errors."""
    ways = ways_seen(rule, road, marks, story)
    check_hash(code)
    return ways


def is_story(rule, road, marks, thing):
    """Whether a thing is a story."""
    return is_right(ways_marked(rule, road, marks), marks, thing)


def last_shapes(ways, marks, story):
    """The ascending list of the last shapes that are right for a story, of the empty one those at first."""
    return reached(ways, fitting_sights(ways, marks, story))[-1] if story else ways.opening


def shapes_behind(rule, road, marks, story):
    """The ascending list of the last shapes of all lists of shapes that are right for a story."""
    ways = ways_seen(rule, road, marks, story)
    return last_shapes(ways, marks, story)


def next_sights(rule, road, marks, story):
    """The ascending list of the sights that put behind a story make a story."""
    ways = ways_seen(rule, road, marks, story)
    cursor = story[-1][0] if story else 0
    if cursor == END:
        return []
    shapes = after(ways, last_shapes(ways, marks, story)) if story else ways.opening
    return sorted({sight for shape in shapes
                   for sight in sights_with(ways.numbers[shape][cursor], ways.lacks[shape][cursor], marks)})


def doubts_behind(rule, road, marks, story):
    """The ascending list of the hashes that are in doubt behind a story."""
    ways = ways_seen(rule, road, marks, story)
    return hashes_in(bits_along(ways, cursors_in(story), fitting_sights(ways, marks, story)))


def lacks_along(ways, run, story):
    """For each call of a run through a story a tuple of its shape and what it leaves out for each moved."""
    return [(shape, ways.lacks[shape][cursor]) for (shape, _), cursor in zip(run, cursors_in(story))]


def is_told(lack, code, moved):
    """Whether a call tells a key with a hash, by what it leaves out for each moved."""
    return lack[moved] >> code & 1 == 0


def moves_of(lacks, code, tolds):
    """The list of the first moved for each call of a run with which it tells a mark just if a list of bools says so."""
    return [[moved for moved in moves(shape) if is_told(lack, code, moved) == told][0]
            for (shape, lack), told in zip(lacks, tolds)]


def are_moves_of(lacks, code, tolds, thing):
    """Whether a thing is a list of a moved for each call with which it tells a mark just if a list says so."""
    if not isinstance(thing, list) or len(thing) != len(tolds):
        return False
    return all([is_move(shape, moved) and is_told(lack, code, moved) == told
                for (shape, lack), told, moved in zip(lacks, tolds, thing)])


def tolds_of(marks, story):
    """For each mark the list of the bools of a story."""
    return [[told[index] for _, told in story] for index in range(len(marks))]


def witness(rule, road, marks, story, code):
    """A tuple of a run that waits for a hash and how each mark is moved, that a hash is in doubt, or None."""
    ways = ways_doubted(rule, road, marks, story, code)
    run = waiting_course(ways, cursors_in(story), fitting_sights(ways, marks, story), code)
    if run is None:
        return None
    lacks = lacks_along(ways, run, story)
    return (run, [moves_of(lacks, mark, tolds) for mark, tolds in zip(marks, tolds_of(marks, story))])


def is_witness(rule, road, marks, story, code, thing):
    """Whether a thing is a tuple that shows that a hash is in doubt behind a story."""
    ways = ways_doubted(rule, road, marks, story, code)
    if not isinstance(thing, tuple) or len(thing) != 2:
        return False
    run, rows = thing
    if not is_waiting_course(ways, cursors_in(story), numbers_of(story), code, run):
        return False
    if not isinstance(rows, list) or len(rows) != len(marks):
        return False
    # Where the moves are right the calls fit the sights, too.
    lacks = lacks_along(ways, run, story)
    return all([are_moves_of(lacks, mark, tolds, row)
                for mark, tolds, row in zip(marks, tolds_of(marks, story), rows)])


def leaving_rows(ways, marks, story, code):
    """For each sight of a story the ascending list of the shapes whose calls fit it and can leave out a hash."""
    return leaving(ways, cursors_in(story), fitting_sights(ways, marks, story), code)


def story_chain(rule, road, marks, story, code):
    """A paper that a hash is not in doubt behind a story, or None if it is."""
    ways = ways_doubted(rule, road, marks, story, code)
    return closed_way(ways, leaving_rows(ways, marks, story, code))


def is_story_chain(rule, road, marks, story, code, thing):
    """Whether a thing is a paper that a hash is not in doubt behind a story."""
    ways = ways_doubted(rule, road, marks, story, code)
    return is_closed_way(ways, leaving_rows(ways, marks, story, code), thing)


def first_clear_story(rule, road, marks, most):
    """The first in ascending order of the shortest stories behind which nothing is in doubt, or None."""
    ways = ways_marked(rule, road, marks)
    check_most(most, MOST_SIGHTS)
    return first_clear_within(ways, marks, most)
