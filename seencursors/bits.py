"""Widths, hashes and buckets."""

from seencursors.errors import InvalidHash, InvalidNumber, InvalidWidth

MOST_WIDTH = 5
MOST_HASH = 31

# Many hashes at once are the bits of an integer: here all of them, and for each width those of bucket 0.
ALL_HASHES = 0xFFFFFFFF
FIRST_BUCKETS = (0xFFFFFFFF, 0x55555555, 0x11111111, 0x01010101, 0x00010001, 0x00000001)


def is_int(thing):
    """Whether a thing is an integer."""
    # True and False are ints for isinstance, but no integers for the document.
    return type(thing) is int


def is_from(thing, least):
    """Whether a thing is an integer from least on."""
    return is_int(thing) and thing >= least


def is_number(thing, least, most):
    """Whether a thing is an integer from least to most."""
    return is_int(thing) and least <= thing <= most


def is_width(thing):
    """Whether a thing is a width."""
    return is_number(thing, 0, MOST_WIDTH)


def is_hash(thing):
    """Whether a thing is a hash."""
    return is_number(thing, 0, MOST_HASH)


def check_hash(code):
    """Raise InvalidHash if the code is no hash."""
    if not is_hash(code):
        raise InvalidHash("a hash is an integer from 0 to 31")


def check_number(number):
    """Raise InvalidNumber if the number is no integer from 0 on."""
    if not is_from(number, 0):
        raise InvalidNumber("the number is an integer from 0 on")


def check_most(most, greatest):
    """Raise InvalidNumber if the number is no integer from 1 to the greatest one."""
    if not is_number(most, 1, greatest):
        raise InvalidNumber(f"the number is an integer from 1 to {greatest}")


def bucket(code, width):
    """The number of the bucket of a hash in a table of a width."""
    if not is_width(width):
        raise InvalidWidth("a width is an integer from 0 to 5")
    check_hash(code)
    return code % (1 << width)


def hashes_in(bits):
    """The ascending list of the hashes whose bits are set."""
    return [code for code in range(MOST_HASH + 1) if bits >> code & 1]
