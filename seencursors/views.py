"""Views: the hashes that are in doubt with each shape that the table can have at a call, as bits."""

from seencursors.bits import ALL_HASHES


def bits_left(ways, shape, cursor):
    """The hashes that the call with a shape and a cursor can leave out, as bits."""
    lack = ways.lacks[shape][cursor]
    return lack[0] | lack[-1]


def first_view(ways):
    """A dict from the shapes that can be at the first call to the hashes that are in doubt ahead of it."""
    return {shape: ALL_HASHES for shape in ways.opening}


def next_view(ways, here):
    """A dict from the shapes that can be at the next call to the hashes in doubt, by what is left behind one."""
    view = {}
    for shape, bits in here.items():
        for other in ways.following[shape]:
            view[other] = view.get(other, 0) | bits
    return view


def left_with(ways, view, cursor, shapes):
    """What a call with a cursor leaves in doubt, as a dict from those of some shapes that can be there."""
    return {shape: view[shape] & bits_left(ways, shape, cursor) for shape in shapes if shape in view}


def left_by_number(ways, view, cursor):
    """The ascending dict from the numbers that a call with a cursor can go on with to what it then leaves in doubt."""
    shapes = {}
    for shape in view:
        shapes.setdefault(ways.numbers[shape][cursor], []).append(shape)
    return {number: left_with(ways, view, cursor, shapes[number]) for number in sorted(shapes)}


def bits_in(here):
    """All hashes that are left in doubt with some shape."""
    bits = 0
    for part in here.values():
        bits |= part
    return bits


def bits_along(ways, cursors, rows):
    """The hashes in doubt behind calls with some cursors, at each of which a list tells the shapes that can be."""
    bits, view = ALL_HASHES, first_view(ways)
    for cursor, row in zip(cursors, rows):
        here = left_with(ways, view, cursor, row)
        bits, view = bits_in(here), next_view(ways, here)
    return bits
