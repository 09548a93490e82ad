"""All errors of the program."""


class CursorError(ValueError):
    """The base of all errors."""


class ParseError(CursorError):
    """A text is none that the program writes."""

    def __init__(self, line):
        super().__init__(f"no such text, from line {line} on")
        self.line = line


class InvalidWidth(CursorError):
    """A width is none."""


class InvalidHash(CursorError):
    """A hash is none."""


class InvalidNumber(CursorError):
    """A number is none of those that may stand there."""


class InvalidShape(CursorError):
    """A shape is none."""


class InvalidMove(CursorError):
    """Whether a key is moved is no bool, or it is moved with one table."""


class InvalidRule(CursorError):
    """A rule cannot be made of this."""


class InvalidCall(CursorError):
    """A call is none of a rule with this shape and these cursors."""


class UnknownShape(CursorError):
    """A rule or a road does not have the shape."""


class UnknownCursor(CursorError):
    """A rule does not have the cursor, or it cannot come now."""


class InvalidRoad(CursorError):
    """A road cannot be made of this."""


class UnknownChange(CursorError):
    """A road does not have the changes."""


class Mismatch(CursorError):
    """Two things do not have the shapes to go together."""


class InvalidRun(CursorError):
    """A run is none."""


class InvalidPairs(CursorError):
    """Pairs are no list of different pairs."""


class InvalidTrace(CursorError):
    """A trace is none."""


class InvalidMarks(CursorError):
    """Marks are no list of different hashes, or too many."""


class InvalidStory(CursorError):
    """A story is none."""


class NothingToUndo(CursorError):
    """There is no earlier state."""


class Moving(CursorError):
    """A table moves already."""


class InvalidPlace(CursorError):
    """A place is none of the shape."""


class UnknownLabel(CursorError):
    """No listing has the label."""


class Over(CursorError):
    """A listing has ended."""


class Endless(CursorError):
    """A listing would never come to an end."""


class InvalidName(CursorError):
    """A name is none."""


class DuplicateName(CursorError):
    """A name is taken."""


class UnknownName(CursorError):
    """Nothing has the name."""


class InvalidLine(CursorError):
    """A line is none of the shell."""
