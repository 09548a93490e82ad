"""Situations: the shape, moved and the cursor of a call."""

from seencursors.bits import is_number
from seencursors.errors import Mismatch
from seencursors.shapes import is_move, is_shape, moves, place_of


def check_match(rule, road):
    """Raise Mismatch if a shape of the road is none of the rule."""
    known = rule.shapes
    if not all([shape in known for shape in road.shapes]):
        raise Mismatch("the rule does not have all shapes of the road")


def is_step(shapes, thing):
    """Whether a thing is a tuple of one of some shapes and what moved can be with it."""
    if not isinstance(thing, tuple) or len(thing) != 2:
        return False
    shape, moved = thing
    return is_shape(shape) and shape in shapes and is_move(shape, moved)


def is_situation(rule, road, thing):
    """Whether a thing is a tuple of a shape of the road, moved, and a cursor of the rule."""
    if not isinstance(thing, tuple) or len(thing) != 3:
        return False
    return is_step(road.shapes, thing[:2]) and is_number(thing[2], 0, rule.cursors - 1)


def situations_with(shapes, cursor):
    """The list of all situations with one of some shapes and a cursor, ascending if the shapes are."""
    return [(shape, moved, cursor) for shape in shapes for moved in moves(shape)]


def first_situations(road):
    """The ascending list of the situations at the beginning."""
    return situations_with(road.begin, 0)


def later_of(rule, situation):
    """The cursor with which the call of a situation goes on, or None if it ends."""
    shape, _, cursor = situation
    return rule.call(shape, cursor)[1]


def next_situations(rule, road, situation):
    """The ascending list of the situations behind one, none if its call ends."""
    later = later_of(rule, situation)
    return [] if later is None else situations_with(road.behind(situation[0]), later)


def lists_hash(rule, situation, code):
    """Whether the call of a situation lists a hash."""
    shape, moved, cursor = situation
    return place_of(shape, code, moved) in rule.call(shape, cursor)[0]
