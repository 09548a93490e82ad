"""Stories: what one sees, sight by sight, who knows of some keys that they stay. Without marks they are traces."""

from seencursors.bits import ALL_HASHES, is_hash, is_number
from seencursors.errors import InvalidMarks
from seencursors.rules import END
from seencursors.trails import cursors_along, reached
from seencursors.views import bits_in, bits_left, first_view, next_view

MOST_MARKS = 8


def check_marks(marks):
    """Raise InvalidMarks if the marks are no list of different hashes, at most eight."""
    if not isinstance(marks, list) or not all([is_hash(code) for code in marks]):
        raise InvalidMarks("marks are a list of hashes")
    if len(marks) > MOST_MARKS or len(set(marks)) < len(marks):
        raise InvalidMarks("marks are at most eight, and different")


def tellings(lack, code):
    """The ascending list of the bools whether a call tells a key with a hash, by what it leaves out for each moved."""
    return sorted({bits >> code & 1 == 0 for bits in lack})


def sights_with(number, lack, marks):
    """The ascending list of the sights of a call, by the number with which it goes on and what it leaves out."""
    rows = [()]
    for code in marks:
        found = tellings(lack, code)
        rows = [told + (one,) for told in rows for one in found]
    return [(number, told) for told in rows]


def is_sight(ways, marks, thing):
    """Whether a thing is a tuple of a cursor or END and a tuple of a bool for each mark."""
    if not isinstance(thing, tuple) or len(thing) != 2:
        return False
    number, told = thing
    if not is_number(number, END, ways.many - 1) or not isinstance(told, tuple) or len(told) != len(marks):
        return False
    # 0 and 1 equal bools, but are none.
    return all([one is True or one is False for one in told])


def fits(ways, marks, state, sight):
    """Whether the call of a state fits a sight."""
    shape, cursor = state
    number, told = sight
    if ways.number(state) != number:
        return False
    lack = ways.lacks[shape][cursor]
    return all([one in tellings(lack, code) for code, one in zip(marks, told)])


def numbers_of(story):
    """The list of the numbers of the sights of a story."""
    return [number for number, _ in story]


def cursors_in(story):
    """The list of the cursors with which the calls of a story are made."""
    return cursors_along(numbers_of(story))


def fitting_sights(ways, marks, story):
    """For each sight of a story the ascending list of the shapes whose calls fit it."""
    return [[shape for shape in ways.numbers if fits(ways, marks, (shape, cursor), sight)]
            for cursor, sight in zip(cursors_in(story), story)]


def is_right(ways, marks, thing):
    """Whether a thing is a story, perhaps the empty one."""
    if not isinstance(thing, list) or not all([is_sight(ways, marks, sight) for sight in thing]):
        return False
    if END in numbers_of(thing[:-1]):
        return False
    return not thing or len(reached(ways, fitting_sights(ways, marks, thing))[-1]) > 0


def left_by_sight(ways, marks, view, cursor):
    """The ascending dict from the sights of a call with a cursor to what it then leaves in doubt with each shape."""
    found = {}
    for shape, bits in view.items():
        left = bits & bits_left(ways, shape, cursor)
        for sight in sights_with(ways.numbers[shape][cursor], ways.lacks[shape][cursor], marks):
            found.setdefault(sight, {})[shape] = left
    return {sight: found[sight] for sight in sorted(found)}


def first_level(ways):
    """The list of the one tuple (story, view at the next call, hashes in doubt) of the empty story."""
    return [((), first_view(ways), ALL_HASHES)]


def next_level(ways, marks, level):
    """The list, ascending if the level is, of such tuples of the stories with one sight more than those of a level."""
    found = []
    for story, view, _ in level:
        cursor = story[-1][0] if story else 0
        if cursor != END:
            for sight, here in left_by_sight(ways, marks, view, cursor).items():
                found.append((story + (sight,), next_view(ways, here), bits_in(here)))
    return found


def first_clear_within(ways, marks, most):
    """The first in ascending order of the shortest stories of at most so many sights that are clear, or None."""
    level = first_level(ways)
    for _ in range(most):
        level = next_level(ways, marks, level)
        clear = [row[0] for row in level if row[2] == 0]
        if clear:
            return list(clear[0])
    return None
