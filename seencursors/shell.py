"""Shell: booths by name, and lines that ask them."""

from seencursors.booths import Booth
from seencursors.errors import InvalidLine, UnknownName
from seencursors.names import check_new, is_known
from seencursors.texts import number_in, parse_rule, shape_word

# How many words a line has, by the first one, and which of them is an integer.
COUNTS = {
    "open": 4, "close": 2, "put": 4, "drop": 3, "start": 3, "move": 3, "enter": 3, "undo": 2, "step": 3, "surely": 3,
    "stayed": 3, "keys": 2, "finish": 3, "seen": 3, "doubts": 3, "shape": 2, "booths": 1}
NUMBER_AT = {"open": 2, "put": 3, "start": 2, "move": 2}

DONE = "ok"
EMPTY = "none"


def words_in(line):
    """The list of the words of a line, or InvalidLine."""
    if not isinstance(line, str) or "\n" in line:
        raise InvalidLine("a line is a string without line feeds")
    words = line.split(" ")
    if "" in words or COUNTS.get(words[0]) != len(words):
        raise InvalidLine("the line does not have the words of any that there is")
    if words[0] in NUMBER_AT and number_in(words[NUMBER_AT[words[0]]]) is None:
        raise InvalidLine("the line has no integer from 0 to 99 where one stands")
    return words


def row_of(words):
    """The answer that lists some words."""
    return " ".join(words) if words else EMPTY


def row_of_numbers(numbers):
    """The answer that lists some numbers."""
    return row_of([str(number) for number in numbers])


def put_key(booth, words):
    """Answer a line that begins with put."""
    booth.put(words[2], number_in(words[3]))
    return DONE


def drop_key(booth, words):
    """Answer a line that begins with drop."""
    booth.drop(words[2])
    return DONE


def start_moving(booth, words):
    """Answer a line that begins with start."""
    booth.start(number_in(words[2]))
    return DONE


def move_buckets(booth, words):
    """Answer a line that begins with move."""
    booth.move(number_in(words[2]))
    return DONE


def enter_listing(booth, words):
    """Answer a line that begins with enter."""
    booth.enter(words[2])
    return DONE


def undo_last(booth, _):
    """Answer a line that begins with undo."""
    booth.undo()
    return DONE


def step_once(booth, words):
    """Answer a line that begins with step."""
    return row_of(booth.step(words[2]))


def tell_sure(booth, words):
    """Answer a line that begins with surely."""
    return row_of(booth.surely_told(words[2]))


def tell_stayed(booth, words):
    """Answer a line that begins with stayed."""
    return row_of(booth.stayed(words[2]))


def tell_keys(booth, _):
    """Answer a line that begins with keys."""
    return row_of(booth.names)


def finish_listing(booth, words):
    """Answer a line that begins with finish."""
    return " ".join([",".join(told) if told else "-" for told in booth.finish(words[2])])


def tell_seen(booth, words):
    """Answer a line that begins with seen."""
    return row_of_numbers(booth.numbers_of(words[2]))


def tell_doubts(booth, words):
    """Answer a line that begins with doubts."""
    return row_of_numbers(booth.doubts_of(words[2]))


def tell_shape(booth, _):
    """Answer a line that begins with shape."""
    return shape_word(booth.shape)


ANSWERS = {
    "put": put_key, "drop": drop_key, "start": start_moving, "move": move_buckets, "enter": enter_listing,
    "undo": undo_last, "step": step_once, "surely": tell_sure, "stayed": tell_stayed, "keys": tell_keys,
    "finish": finish_listing, "seen": tell_seen, "doubts": tell_doubts, "shape": tell_shape}


class Shell:
    """A shell, at first without booths."""

    def __init__(self):
        self._booths = {}

    def run(self, line):
        """Execute a line, and return its answer."""
        words = words_in(line)
        if words[0] == "booths":
            return row_of(sorted(self._booths))
        name = words[1]
        if words[0] == "open":
            self._add(name, number_in(words[2]), words[3])
            return DONE
        if not is_known(self._booths, name):
            raise UnknownName("no booth has the name")
        if words[0] == "close":
            del self._booths[name]
            return DONE
        answer = ANSWERS[words[0]]
        return answer(self._booths[name], words)

    def _add(self, name, width, text):
        check_new(self._booths, name)
        self._booths[name] = Booth(parse_rule(text.replace("/", "\n").replace(",", " ")), width)
