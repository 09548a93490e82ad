"""The texts of rules and roads."""

from seencursors.bits import is_number
from seencursors.errors import ParseError
from seencursors.roads import Road, is_change
from seencursors.rules import MOST_CURSORS, Rule, is_call
from seencursors.shapes import is_shape


def shape_word(shape):
    """The word of a shape."""
    return ">".join([str(width) for width in shape])


def place_word(place):
    """The word of a place."""
    return ".".join([str(number) for number in place])


def call_line(call):
    """The line of a call."""
    listing, later = call
    rest = ["end"] if later is None else ["next", str(later)]
    return " ".join(["call"] + [place_word(place) for place in listing] + rest)


def format_rule(rule):
    """The text of a rule."""
    lines = [f"cursors {rule.cursors}"]
    for shape, row in rule.calls.items():
        lines.append(f"shape {shape_word(shape)}")
        lines.extend([call_line(call) for call in row])
    return "\n".join(lines)


def format_road(road):
    """The text of a road."""
    begin = [f"begin {shape_word(shape)}" for shape in road.begin]
    changes = [f"change {shape_word(shape)} {shape_word(other)}" for shape, other in road.changes]
    return "\n".join(begin + changes)


def number_in(word):
    """The integer that a word writes, or None."""
    # No text has an integer of three figures, and Python does not read one of thousands.
    if len(word) not in (1, 2) or not all([figure in "0123456789" for figure in word]):
        return None
    if len(word) == 2 and word[0] == "0":
        return None
    return int(word)


def numbers_in(word, sign):
    """The tuple of the integers that a word writes with a sign between them, None for each that is none."""
    return tuple([number_in(part) for part in word.split(sign)])


def lines_of(text):
    """The list of the lines of a text."""
    if not isinstance(text, str):
        raise ParseError(0)
    return text.split("\n")


def words_at(lines, index):
    """The list of the words of a line; the text may be too short to have it."""
    if index >= len(lines):
        raise ParseError(index)
    return lines[index].split(" ")


def cursors_at(lines, index):
    """The number of cursors that a line writes."""
    words = words_at(lines, index)
    if len(words) != 2 or words[0] != "cursors" or not is_number(number_in(words[1]), 1, MOST_CURSORS):
        raise ParseError(index)
    return number_in(words[1])


def shape_at(lines, index, ahead):
    """The shape that a line writes, a greater one than that ahead of it."""
    words = words_at(lines, index)
    shape = numbers_in(words[-1], ">")
    if len(words) != 2 or words[0] != "shape" or not is_shape(shape) or shape <= ahead:
        raise ParseError(index)
    return shape


def call_in(words):
    """A tuple of what the words of a line list and how they go on, perhaps not a call, or None."""
    if words[0] == "call" and words[-1] == "end":
        listing, later = words[1:-1], None
    elif words[0] == "call" and words[-2:-1] == ["next"] and number_in(words[-1]) is not None:
        listing, later = words[1:-2], number_in(words[-1])
    else:
        return None
    return (tuple([numbers_in(word, ".") for word in listing]), later)


def call_at(lines, index, cursors, shape):
    """The call that a line writes, of a rule with so many cursors."""
    call = call_in(words_at(lines, index))
    if not is_call(cursors, shape, call):
        raise ParseError(index)
    return call


def parse_rule(text):
    """The rule with a text."""
    lines = lines_of(text)
    cursors = cursors_at(lines, 0)
    calls = {}
    index = 1
    # The empty tuple is less than each shape.
    shape = ()
    while index < len(lines) or not calls:
        shape = shape_at(lines, index, shape)
        calls[shape] = [call_at(lines, at, cursors, shape) for at in range(index + 1, index + 1 + cursors)]
        index += 1 + cursors
    return Rule(cursors, calls)


def is_next(rows, row):
    """Whether a row may stand behind others in an ascending list of different ones."""
    return len(rows) == 0 or rows[-1] < row


def parse_road(text):
    """The road with a text."""
    begin, changes = [], []
    for index, line in enumerate(lines_of(text)):
        words = line.split(" ")
        shapes = tuple([numbers_in(word, ">") for word in words[1:]])
        if not all([is_shape(shape) for shape in shapes]):
            raise ParseError(index)
        if words[0] == "begin" and len(shapes) == 1 and not changes and is_next(begin, shapes[0]):
            begin.append(shapes[0])
        elif words[0] == "change" and is_change(shapes) and begin and is_next(changes, shapes):
            changes.append(shapes)
        else:
            raise ParseError(index)
    return Road(begin, changes)
