"""Rows, their runs, and rounds."""

from runswap.checks import MOST_ROUNDS, MOST_SUM, check_rounds, is_integer
from runswap.errors import InvalidRow, InvalidRuns
from runswap.turning import grouped, lengths_differ, runs_after, spread, turned


def is_row(value):
    """Tell whether any value is a row."""
    if not isinstance(value, tuple) or not 1 <= len(value) <= MOST_SUM:
        return False
    # Each entry behind the next one counts 1 at least, so the next one can be no greater than this.
    most = MOST_SUM + 1 - len(value)
    for entry in value:
        # Rows are checked at each call: nearly all entries pass the first, quick question.
        if type(entry) is not int and not is_integer(entry):
            return False
        if entry != 1:
            if not 1 < entry <= most:
                return False
            most -= entry - 1
    return True


def is_runs(value):
    """Tell whether any value is the runs of a row."""
    if not isinstance(value, list) or not 1 <= len(value) <= MOST_SUM:
        return False
    left = MOST_SUM
    before = 0
    for item in value:
        if not isinstance(item, tuple) or len(item) != 2:
            return False
        number, length = item
        if type(number) is not int and not is_integer(number):
            return False
        if type(length) is not int and not is_integer(length):
            return False
        if not 1 <= number <= left or not 1 <= length <= left // number:
            return False
        # Neighbouring pairs with the same number would be one run.
        if number == before:
            return False
        left -= number * length
        before = number
    return True


def check_row(row):
    if not is_row(row):
        raise InvalidRow("not a tuple of integers of at least 1 with a sum from 1 to 200")


def check_runs(runs):
    if not is_runs(runs):
        raise InvalidRuns("not the runs of a row")


def runs_of(row):
    """Return the runs of a row."""
    check_row(row)
    return grouped(row)


def row_of(runs):
    """Return the row with these runs."""
    check_runs(runs)
    return spread(runs)


def swapped(row):
    """Return the row after one round."""
    check_row(row)
    return spread(turned(grouped(row)))


def row_after(row, *, rounds=1):
    """Return the row after so many rounds, 0 to 10 ** 30."""
    check_row(row)
    check_rounds(rounds, MOST_ROUNDS)
    return spread(runs_after(grouped(row), rounds))


def rows_from(row):
    """Yield the row, then the rows after 1, 2, 3 and so on rounds, without an end."""
    check_row(row)
    runs = grouped(row)
    while not lengths_differ(runs):
        yield spread(runs)
        runs = turned(runs)
    # From the first settled row on two rows alternate.
    even = spread(runs)
    odd = spread(turned(runs))
    while True:
        yield even
        yield odd
