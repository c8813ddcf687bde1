"""Rows by their numbers in ascending order, and the numbers of rows.

A path goes through a row from the front, step by step, a step being an entry or a run; lower steps lead to lower
rows. At its start count_all() tells to how many rows it can lead. Then ways(step) tells how many of the rows left go
on with this step, go(step) takes it, is_done() tells whether the row is complete, and row_so_far() returns it.
"""

from runswap.checks import check_number


def row_with(path, number):
    """Return the row with this number among those to which the path can lead."""
    check_number(number, path.count_all())
    left = number
    while not path.is_done():
        step = 1
        ways = path.ways(step)
        while left >= ways:
            left -= ways
            step += 1
            ways = path.ways(step)
        path.go(step)
    return path.row_so_far()


def number_of(path, steps):
    """Return the number of the row to which these steps lead."""
    number = 0
    for step in steps:
        number += sum([path.ways(lower) for lower in range(1, step)])
        path.go(step)
    return number
