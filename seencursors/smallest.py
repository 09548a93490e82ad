"""Smallest rules: what tells two rules apart, and the fewest cursors that do the same."""

from seencursors.errors import Mismatch
from seencursors.rules import Rule


def compare(rule, other):
    """A dict from the pairs of cursors met together to the tuples (pair ahead, shape), and a row that tells apart.

    Shorter rows come first, and rows of the same length in ascending order: so the first row that tells the rules
    apart is the first of the shortest ones. It is None if there is none.
    """
    calls, others = rule.calls, other.calls
    if list(calls) != list(others):
        raise Mismatch("the rules do not have the same shapes")
    ahead = {(0, 0): None}
    queue = list(ahead)
    index = 0
    while index < len(queue):
        pair = queue[index]
        index += 1
        for shape in calls:
            call, match = calls[shape][pair[0]], others[shape][pair[1]]
            behind = (call[1], match[1])
            if call[0] != match[0] or (None in behind and behind != (None, None)):
                return ahead, row_to(ahead, pair) + [shape]
            if None not in behind and behind not in ahead:
                ahead[behind] = (pair, shape)
                queue.append(behind)
    return ahead, None


def row_to(ahead, pair):
    """The row of shapes that comes to a pair, from a dict to the pairs ahead."""
    row = []
    while ahead[pair] is not None:
        pair, shape = ahead[pair]
        row.append(shape)
    return row[::-1]


def apart(rule, other):
    """The first in ascending order of the shortest rows of shapes that tell two rules apart, or None."""
    _, row = compare(rule, other)
    return row


def pairs(rule, other):
    """The ascending list of the pairs of cursors with which calls are made together, or None if a row tells apart."""
    ahead, row = compare(rule, other)
    return sorted(ahead) if row is None else None


def numbered(signs):
    """The list of numbers, from 0 on, that stand for equal signs alike."""
    known = {}
    return [known.setdefault(sign, len(known)) for sign in signs]


def kinds_of(rule):
    """The list of a number for each cursor, the same for those behind which all listings go the same way."""
    rows = list(rule.calls.values())
    cursors = range(rule.cursors)
    kinds = numbered([tuple([(row[cursor][0], row[cursor][1] is None) for row in rows]) for cursor in cursors])
    count = 0
    while count < max(kinds):
        count = max(kinds)
        kinds = numbered([(kinds[cursor], tuple([kind_behind(kinds, row[cursor]) for row in rows]))
                          for cursor in cursors])
    return kinds


def kind_behind(kinds, call):
    """The kind of the cursor with which a call goes on, or None if it ends."""
    return None if call[1] is None else kinds[call[1]]


def first_of_kinds(rule, kinds):
    """A dict from the kinds of cursors that a listing comes to, in the order in which they are met, to the first."""
    rows = list(rule.calls.values())
    first = {kinds[0]: 0}
    queue = [0]
    index = 0
    while index < len(queue):
        cursor = queue[index]
        index += 1
        for row in rows:
            kind = kind_behind(kinds, row[cursor])
            if kind is not None and kind not in first:
                first[kind] = row[cursor][1]
                queue.append(row[cursor][1])
    return first


def smallest(rule):
    """The rule with the fewest cursors that does the same."""
    kinds = kinds_of(rule)
    first = first_of_kinds(rule, kinds)
    names = {kind: number for number, kind in enumerate(first)}
    names[None] = None
    return Rule(len(first), {
        shape: [(row[cursor][0], names[kind_behind(kinds, row[cursor])]) for cursor in first.values()]
        for shape, row in rule.calls.items()})
