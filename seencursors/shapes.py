"""Shapes of a table, and the places that they have."""

from seencursors.bits import ALL_HASHES, FIRST_BUCKETS, bucket, check_hash, is_number, is_width
from seencursors.errors import InvalidMove, InvalidShape


def is_shape(thing):
    """Whether a thing is a shape."""
    if not isinstance(thing, tuple) or len(thing) not in (1, 2):
        return False
    if len(thing) == 1:
        return is_width(thing[0])
    return is_width(thing[0]) and is_width(thing[1]) and thing[0] != thing[1]


def check_shape(shape):
    """Raise InvalidShape if the shape is none."""
    if not is_shape(shape):
        raise InvalidShape("a shape is a tuple of a width, or of two different ones")


def places(shape):
    """The ascending list of the places of a shape."""
    check_shape(shape)
    return [(table, number) for table, width in enumerate(shape) for number in range(1 << width)]


def is_place(shape, thing):
    """Whether a thing is a place of a shape."""
    check_shape(shape)
    if not isinstance(thing, tuple) or len(thing) != 2:
        return False
    table, number = thing
    return is_number(table, 0, len(shape) - 1) and is_number(number, 0, (1 << shape[table]) - 1)


def moves(shape):
    """What moved can be with a shape, ascending."""
    return [False] if len(shape) == 1 else [False, True]


def is_move(shape, thing):
    """Whether moved can be a thing with a shape."""
    # 0 and 1 equal bools, but are none.
    return thing is False or (thing is True and len(shape) == 2)


def place_of(shape, code, moved):
    """The place of a key with a hash, in table 1 if it is moved."""
    check_shape(shape)
    check_hash(code)
    if not is_move(shape, moved):
        raise InvalidMove("moved is a bool, and False with one table")
    table = 1 if moved else 0
    return (table, bucket(code, shape[table]))


def left_out(shape, listing):
    """The hashes that a list of different places leaves out, as bits: a tuple with those for each moved."""
    left = [ALL_HASHES] * len(shape)
    for table, number in listing:
        left[table] ^= FIRST_BUCKETS[shape[table]] << number
    return tuple(left)
