"""Rows by their numbers in ascending order, and the numbers of rows.

A path goes through a row from the front, step by step, a step being an entry or a run. It has the methods
is_done(), ways(step), which tells how many rows there are that go on with this step, and go(step), which takes it.
Lower steps lead to lower rows.
"""


def go_to(path, number):
    """Take the steps to the row with this number, which there must be."""
    left = number
    while not path.is_done():
        step = 1
        ways = path.ways(step)
        while left >= ways:
            left -= ways
            step += 1
            ways = path.ways(step)
        path.go(step)


def number_of(path, steps):
    """Return the number of the row to which these steps lead."""
    number = 0
    for step in steps:
        number += sum([path.ways(lower) for lower in range(1, step)])
        path.go(step)
    return number
