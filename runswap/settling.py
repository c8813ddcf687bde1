"""Settled rows, and the way to them."""

from runswap.rows import check_row
from runswap.turning import grouped, lengths_are_numbers, lengths_differ, spread, turned


def is_settled(row):
    """Tell whether neighbouring runs have different lengths."""
    check_row(row)
    return lengths_differ(grouped(row))


def is_still(row):
    """Tell whether a round does not change the row."""
    check_row(row)
    return lengths_are_numbers(grouped(row))


def rounds_needed(row):
    """Return the least number of rounds after which the row is settled."""
    check_row(row)
    runs = grouped(row)
    rounds = 0
    while not lengths_differ(runs):
        runs = turned(runs)
        rounds += 1
    return rounds


def settled_pair(row):
    """Return the first settled row that occurs and the row one round later."""
    check_row(row)
    runs = grouped(row)
    while not lengths_differ(runs):
        runs = turned(runs)
    return (spread(runs), spread(turned(runs)))


def run_counts(row):
    """Return the numbers of runs after 0, 1, 2 and so on rounds, up to the first settled row."""
    check_row(row)
    runs = grouped(row)
    counts = [len(runs)]
    while not lengths_differ(runs):
        runs = turned(runs)
        counts.append(len(runs))
    return counts


def meeting(row, other):
    """Return the least number of rounds after which both rows are equal, or None."""
    check_row(row)
    check_row(other)
    # A round does not change the sum.
    if sum(row) != sum(other):
        return None
    runs = grouped(row)
    others = grouped(other)
    rounds = 0
    while runs != others:
        # A second round leads back from a settled row, so different settled rows stay different.
        if lengths_differ(runs) and lengths_differ(others):
            return None
        runs = turned(runs)
        others = turned(others)
        rounds += 1
    return rounds
