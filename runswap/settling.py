"""Settled rows, and the way to them."""

from runswap.rows import runs_of
from runswap.turning import lengths_differ, spread, turned


def is_settled(row):
    """Tell whether neighbouring runs have different lengths."""
    return lengths_differ(runs_of(row))


def is_still(row):
    """Tell whether a round does not change the row."""
    runs = runs_of(row)
    return turned(runs) == runs


def _way(row):
    """Return the list of the runs after 0, 1, 2 and so on rounds, up to the first settled row."""
    way = [runs_of(row)]
    while not lengths_differ(way[-1]):
        way.append(turned(way[-1]))
    return way


def rounds_needed(row):
    """Return the least number of rounds after which the row is settled."""
    return len(_way(row)) - 1


def settled_pair(row):
    """Return the first settled row that occurs and the row one round later."""
    last = _way(row)[-1]
    return (spread(last), spread(turned(last)))


def run_counts(row):
    """Return the numbers of runs after 0, 1, 2 and so on rounds, up to the first settled row."""
    return [len(runs) for runs in _way(row)]


def meeting(row, other):
    """Return the least number of rounds after which both rows are equal, or None."""
    runs = runs_of(row)
    others = runs_of(other)
    rounds = 0
    while runs != others:
        # A second round leads back from a settled row, so different settled rows stay different.
        if lengths_differ(runs) and lengths_differ(others):
            return None
        runs = turned(runs)
        others = turned(others)
        rounds += 1
    return rounds
