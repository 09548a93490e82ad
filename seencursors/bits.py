"""Widths, hashes and buckets."""

from seencursors.errors import InvalidHash, InvalidWidth

MOST_WIDTH = 5
MOST_HASH = 31


def is_number(thing, least, most):
    """Whether a thing is an integer from least to most."""
    # Python counts True and False as ints, the document does not.
    return isinstance(thing, int) and not isinstance(thing, bool) and least <= thing <= most


def is_width(thing):
    """Whether a thing is a width."""
    return is_number(thing, 0, MOST_WIDTH)


def is_hash(thing):
    """Whether a thing is a hash."""
    return is_number(thing, 0, MOST_HASH)


def check_hash(code):
    """Raise InvalidHash if the code is no hash."""
    if not is_hash(code):
        raise InvalidHash("a hash is an integer from 0 to 31")


def bucket(code, width):
    """The number of the bucket of a hash in a table of a width."""
    if not is_width(width):
        raise InvalidWidth("a width is an integer from 0 to 5")
    check_hash(code)
    return code % (1 << width)
