"""Rows, their runs, and rounds."""

from runswap.checks import check_rounds, is_within
from runswap.errors import InvalidRow, InvalidRuns
from runswap.turning import merged, runs_after, spread, turned

MOST_SUM = 200


def is_row(value):
    """Tell whether any value is a row."""
    if not isinstance(value, tuple) or not 1 <= len(value) <= MOST_SUM:
        return False
    return all([is_within(entry, 1, MOST_SUM) for entry in value]) and sum(value) <= MOST_SUM


def is_runs(value):
    """Tell whether any value is the runs of a row."""
    if not isinstance(value, list) or not 1 <= len(value) <= MOST_SUM:
        return False
    if not all([_is_run(item) for item in value]):
        return False
    if sum([number * length for number, length in value]) > MOST_SUM:
        return False
    # Neighbouring pairs with the same number would be one run.
    return len(merged(value)) == len(value)


def _is_run(value):
    if not isinstance(value, tuple) or len(value) != 2:
        return False
    return all([is_within(part, 1, MOST_SUM) for part in value])


def check_row(row):
    if not is_row(row):
        raise InvalidRow("not a tuple of integers of at least 1 with a sum from 1 to 200")


def check_runs(runs):
    if not is_runs(runs):
        raise InvalidRuns("not the runs of a row")


def runs_of(row):
    """Return the runs of a row."""
    check_row(row)
    return merged([(entry, 1) for entry in row])


def row_of(runs):
    """Return the row with these runs."""
    check_runs(runs)
    return spread(runs)


def swapped(row):
    """Return the row after one round."""
    return spread(turned(runs_of(row)))


def row_after(row, *, rounds=1):
    """Return the row after so many rounds, 0 to 10 ** 30."""
    runs = runs_of(row)
    check_rounds(rounds)
    return spread(runs_after(runs, rounds))


def rows_from(row):
    """Yield the row, then the rows after 1, 2, 3 and so on rounds, without an end."""
    runs = runs_of(row)
    while True:
        yield spread(runs)
        runs = turned(runs)
