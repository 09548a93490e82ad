"""Names, of keys, listings and booths."""

from seencursors.errors import DuplicateName, InvalidName

LETTERS = "abcdefghijklmnopqrstuvwxyz"
MOST_LETTERS = 8


def is_name(thing):
    """Whether a thing is a string of one to eight lowercase letters."""
    if not isinstance(thing, str) or not 1 <= len(thing) <= MOST_LETTERS:
        return False
    return all([sign in LETTERS for sign in thing])


def is_known(taken, thing):
    """Whether a thing is one of the names that are the keys of a dict."""
    # What is no name may be no key of any dict.
    return is_name(thing) and thing in taken


def check_new(taken, name):
    """Raise InvalidName if the name is none, DuplicateName if it is one of the keys of a dict."""
    if not is_name(name):
        raise InvalidName("a name is a string of one to eight lowercase letters")
    if name in taken:
        raise DuplicateName("the name is taken")
