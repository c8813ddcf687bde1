"""All rows with a sum: how many there are, and their numbers in ascending order."""

from math import isqrt

from runswap.checks import check_number, check_total, is_within
from runswap.errors import InvalidRunCount
from runswap.rows import check_row

MOST_RUNS = 200


def count_rows(total):
    """Return the number of rows with this sum."""
    check_total(total)
    return 1 << (total - 1)


def nth_row(total, number):
    """Return the row with this sum and this number."""
    check_total(total)
    rows = 1 << (total - 1)
    check_number(number, rows)
    # A row is total ones with a mark between neighbours: 1 if they belong to one entry, 0 if an entry ends.
    # Read as a binary number, the marks are the number of the row.
    marks = f"{rows + number:b}"
    return tuple([len(joined) + 1 for joined in marks[1:].split("0")])


def row_number(row):
    """Return the number of the row among the rows with its sum."""
    check_row(row)
    number = 0
    for entry in row:
        # A mark 0 behind what was before, then the marks 1 within the entry.
        number = (number << entry) + (1 << (entry - 1)) - 1
    return number


def count_by_runs(total, runs):
    """Return the number of rows with this sum and so many runs, 1 to 200."""
    check_total(total)
    if not is_within(runs, 1, MOST_RUNS):
        raise InvalidRunCount("runs is not an integer from 1 to 200")
    # Of two neighbouring runs one has a number of at least 2.
    if runs + runs // 2 > total:
        return 0
    return _packed_by_runs(total, runs) >> (total * runs)


def _packed_by_runs(total, most):
    """Return the numbers of rows with this sum, by runs, for up to so many runs.

    The numbers are packed into one integer, that for r runs in the bits from total * r on: none is greater than
    2 ** (total - 1). So one addition adds the numbers for all r, and a shift by `total` bits adds a run.
    """
    mask = (1 << (total * (most + 1))) - 1
    low = isqrt(total)
    rows = [1]
    begun = [[0] * (total + 1) for _ in range(low + 1)]
    jumps = [[0] * (total + 1) for _ in range(total // (low + 1) + 1)]
    for part in range(1, total + 1):
        ways = _begun_above(rows, jumps, part, low, total)
        for first in range(1, min(low, part) + 1):
            # An entry in front of a row begins a run, unless the row begins with the same entry.
            same = begun[first][part - first]
            found = (((rows[part - first] - same) << total) + same) & mask
            begun[first][part] = found
            ways += found
        rows.append(ways & mask)
    return rows[total]


def _begun_above(rows, jumps, part, low, bits):
    """Return the packed numbers of rows with the sum `part` that begin with an entry above `low`.

    With x for one run more, the rows that begin with v are x * rows[part - v] and (1 - x) times those that begin
    with v and have the sum part - v. So they are the sum of x * (1 - x) ** (k - 1) * rows[part - k * v] over all k
    from 1 on. As v is great there are few k; jumps[k][part] is the sum of rows[part - k * v] over all v.
    """
    ways = 0
    for times in range(part // (low + 1), 0, -1):
        jump = jumps[times]
        jump[part] = jump[part - times] + rows[part - times * (low + 1)]
        ways += jump[part] - (ways << bits)
    return ways << bits
