"""All rows with a sum: how many there are, and their numbers in ascending order."""

from runswap.checks import check_number, check_total, is_within
from runswap.errors import InvalidRunCount
from runswap.rows import check_row
from runswap.run_counts import rows_by_runs

MOST_RUNS = 200


def count_rows(total):
    """Return the number of rows with this sum."""
    check_total(total)
    return 1 << (total - 1)


def nth_row(total, number):
    """Return the row with this sum and this number."""
    check_total(total)
    rows = 1 << (total - 1)
    check_number(number, rows)
    # A row is total ones with a mark between neighbours: 1 if they belong to one entry, 0 if an entry ends.
    # Read as a binary number, the marks are the number of the row.
    marks = f"{rows + number:b}"
    return tuple([len(joined) + 1 for joined in marks[1:].split("0")])


def row_number(row):
    """Return the number of the row among the rows with its sum."""
    check_row(row)
    number = 0
    for entry in row:
        # A mark 0 behind what was before, then the marks 1 within the entry.
        number = (number << entry) + (1 << (entry - 1)) - 1
    return number


def count_by_runs(total, runs):
    """Return the number of rows with this sum and so many runs, 1 to 200."""
    check_total(total)
    if not is_within(runs, 1, MOST_RUNS):
        raise InvalidRunCount("runs is not an integer from 1 to 200")
    return rows_by_runs(total, runs)
