"""Roads: shapes with which a listing may begin, and changes of the shape."""

from seencursors.errors import InvalidRoad, UnknownChange, UnknownShape
from seencursors.shapes import is_shape


def is_change(thing):
    """Whether a thing is a change."""
    if not isinstance(thing, tuple) or len(thing) != 2:
        return False
    shape, other = thing
    return is_shape(shape) and is_shape(other) and shape != other


def are_shapes(thing):
    """Whether a thing is a list of different shapes, at least one."""
    if not isinstance(thing, list) or not all([is_shape(shape) for shape in thing]):
        return False
    return len(thing) > 0 and len(set(thing)) == len(thing)


def are_changes(thing):
    """Whether a thing is a list of different changes, perhaps empty."""
    if not isinstance(thing, list) or not all([is_change(change) for change in thing]):
        return False
    return len(set(thing)) == len(thing)


def shapes_behind(begin, changes):
    """A dict from the shapes of a road to the ascending lists of those that may follow, both ascending."""
    behind = {}
    for shape in sorted(set(begin + [part for change in changes for part in change])):
        behind[shape] = sorted([shape] + [other for ahead, other in changes if ahead == shape])
    return behind


class Road:
    """A road. It does not change."""

    def __init__(self, begin, changes):
        if not are_shapes(begin) or not are_changes(changes):
            raise InvalidRoad("a road has a list of shapes, at least one, and a list of changes, each of them once")
        self._begin = sorted(begin)
        self._changes = sorted(changes)
        self._behind = shapes_behind(begin, changes)

    @property
    def begin(self):
        """The ascending list of the shapes with which a listing may begin."""
        return list(self._begin)

    @property
    def changes(self):
        """The ascending list of the changes."""
        return list(self._changes)

    @property
    def shapes(self):
        """The ascending list of the shapes."""
        return list(self._behind)

    def behind(self, shape):
        """The ascending list of the shapes that may follow a shape, itself among them."""
        # The tuple (True,) equals (1,), so that it is a shape is asked first.
        if not is_shape(shape) or shape not in self._behind:
            raise UnknownShape("the road does not have the shape")
        return list(self._behind[shape])

    def without(self, changes):
        """The road without some of its changes."""
        if not are_changes(changes) or not all([change in self._changes for change in changes]):
            raise UnknownChange("the road does not have these changes, each of them once")
        return Road(self._begin, [change for change in self._changes if change not in changes])

    def with_change(self, change):
        """The road with a further change."""
        # A road refuses what is no change, and a change that it would have twice.
        return Road(self._begin, self._changes + [change])

    def __eq__(self, other):
        return isinstance(other, Road) and self._begin == other._begin and self._changes == other._changes


def full_road(shapes):
    """The road that may begin with each of some shapes, and has all changes between them."""
    if not are_shapes(shapes):
        raise InvalidRoad("a full road has a list of different shapes, at least one")
    return Road(shapes, [(shape, other) for shape in shapes for other in shapes if shape != other])
