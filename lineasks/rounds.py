"""Rounds of asks by a table, and how late they come."""

from lineasks.errors import NoNumber
from lineasks.wholes import is_whole


def is_row(thing):
    """Whether any thing is a row of a table."""
    return isinstance(thing, tuple) and len(thing) == 2 and all([is_whole(one, 1, 99) for one in thing])


def is_table(thing):
    """Whether any thing is a table."""
    return isinstance(thing, tuple) and 1 <= len(thing) <= 6 and all([is_row(one) for one in thing])


def check_table(thing):
    """Refuses what is no table."""
    if not is_table(thing):
        raise NoNumber("not a table")


def starts(table, until):
    """A list of (start, row, late) of all asks that begin ahead of until; rows count from 0."""
    check_table(table)
    if not is_whole(until, 0, 999):
        raise NoNumber("not a number from 0 to 999")
    begun = []
    due = [0] * len(table)
    free = 0
    while True:
        # index finds the first row of several that are due at once.
        earliest = min(due)
        row = due.index(earliest)
        start = max(free, earliest)
        if start >= until:
            return begun
        begun.append((start, row, start - earliest))
        every, long = table[row]
        due[row] += every
        free = start + long


def latest(table, until):
    """By how much the latest ask that begins ahead of until is behind its due moment."""
    return max([late for start, row, late in starts(table, until)], default=0)


def common(one, other):
    """The greatest number that divides both."""
    while other > 0:
        one, other = other, one % other
    return one


def share(table):
    """The share of all moments that the asks take, as (up, down) in lowest terms."""
    check_table(table)
    up, down = 0, 1
    for every, long in table:
        up, down = up * every + long * down, down * every
    most = common(up, down)
    return (up // most, down // most)


def can_bear(table):
    """Whether the line has the time for all asks of a table."""
    up, down = share(table)
    return up <= down
