"""Shapes of a table, and the places that they have."""

from seencursors.bits import bucket, check_hash, is_number, is_width
from seencursors.errors import InvalidMove, InvalidShape


def is_shape(thing):
    """Whether a thing is a shape."""
    if not isinstance(thing, tuple) or len(thing) not in (1, 2):
        return False
    if not all([is_width(width) for width in thing]):
        return False
    return len(thing) == 1 or thing[0] != thing[1]


def check_shape(shape):
    """Raise InvalidShape if the shape is none."""
    if not is_shape(shape):
        raise InvalidShape("a shape is a tuple of a width, or of two different ones")


def places(shape):
    """The ascending list of the places of a shape."""
    check_shape(shape)
    return [(table, number) for table, width in enumerate(shape) for number in range(1 << width)]


def is_place(shape, thing):
    """Whether a thing is a place of a shape."""
    check_shape(shape)
    if not isinstance(thing, tuple) or len(thing) != 2:
        return False
    table, number = thing
    return is_number(table, 0, len(shape) - 1) and is_number(number, 0, (1 << shape[table]) - 1)


def moves(shape):
    """What moved can be with a shape, ascending."""
    return [False] if len(shape) == 1 else [False, True]


def is_move(shape, thing):
    """Whether moved can be a thing with a shape."""
    # 0 and 1 equal bools, so that they are no bools is asked first.
    return isinstance(thing, bool) and thing in moves(shape)


def place_of(shape, code, moved):
    """The place of a key with a hash, in table 1 if it is moved."""
    check_shape(shape)
    check_hash(code)
    if not is_move(shape, moved):
        raise InvalidMove("moved is a bool, and False with one table")
    table = 1 if moved else 0
    return (table, bucket(code, shape[table]))
