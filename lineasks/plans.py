"""Reads and writes with the fewest bytes."""

from lineasks.errors import NoNumber
from lineasks.stations import are_rising_places
from lineasks.wholes import is_byte_tuple, is_whole

# Places from 0 to 15, of which one ask can have up to 8.
PLACES = 16
MOST = 8

# The bytes that an ask and its answer take beside those of its places.
READ_BYTES = 10
WRITE_BYTES = 9


def check_wanted(thing):
    """Refuses what is no rising tuple of places."""
    if not are_rising_places(thing, PLACES):
        raise NoNumber("not a rising tuple of places from 0 to 15")


def is_run(thing):
    """Whether any thing is a run that does not reach beyond the last place."""
    if not isinstance(thing, tuple) or len(thing) != 2:
        return False
    at, many = thing
    return is_whole(many, 1, MOST) and is_whole(at, 0, PLACES - many)


def reads_for(wanted, most):
    """A list of as few runs of at most so many places as have all that are wanted."""
    check_wanted(wanted)
    if not is_whole(most, 1, MOST):
        raise NoNumber("not a number from 1 to 8")
    runs = []
    for place in wanted:
        if runs and place < runs[-1][0] + most:
            at = runs[-1][0]
            runs[-1] = (at, place - at + 1)
        else:
            runs.append((place, 1))
    return runs


def cheapest_runs(wanted, beside):
    """The runs that take the fewest bytes, where each takes some beside its places."""
    # For each place wanted, and behind them all, the bytes and the runs from it on.
    best = {len(wanted): (0, [])}
    for first in range(len(wanted) - 1, -1, -1):
        ways = []
        for last in range(first, len(wanted)):
            many = wanted[last] - wanted[first] + 1
            taken, runs = best[last + 1]
            if many <= MOST:
                ways.append((beside + many + taken, [(wanted[first], many), *runs]))
        # Of ways with as many bytes the first list is the least.
        best[first] = min(ways)
    return best[0][1]


def cheapest_reads(wanted):
    """The list of runs that have all that are wanted, and take the fewest bytes to read."""
    check_wanted(wanted)
    return cheapest_runs(wanted, READ_BYTES)


def read_bytes(reads):
    """How many bytes the reads of a list of runs take together."""
    if not isinstance(reads, list) or not all([is_run(one) for one in reads]):
        raise NoNumber("not a list of runs")
    return sum([READ_BYTES + many for at, many in reads])


def cheapest_writes(old, new):
    """A list of (at, values), which lead from the old bytes to the new ones with the fewest bytes."""
    if not is_byte_tuple(old, 1, PLACES) or not is_byte_tuple(new, 1, PLACES) or len(old) != len(new):
        raise NoNumber("not two tuples of as many bytes")
    wanted = tuple([at for at, byte in enumerate(new) if byte != old[at]])
    return [(at, new[at:at + many]) for at, many in cheapest_runs(wanted, WRITE_BYTES)]
