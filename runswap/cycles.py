"""Settled and still rows with a sum: how many there are, and their numbers in ascending order."""

from runswap.checks import check_number, check_total
from runswap.errors import NotSettled, NotStill
from runswap.numbering import number_of, row_with
from runswap.rows import check_row
from runswap.settled_ways import SettledWays
from runswap.turning import grouped, lengths_are_numbers, lengths_differ


def count_settled(total):
    """Return the number of settled rows with this sum."""
    check_total(total)
    return SettledWays(total).rows(total)


def nth_settled(total, number):
    """Return the settled row with this sum and this number."""
    check_total(total)
    # There are no more settled rows than rows: most wrong numbers are refused before the rows are counted.
    check_number(number, 1 << (total - 1))
    return row_with(SettledPath(total), number)


def settled_number(row):
    """Return the number of the settled row among the settled rows with its sum."""
    check_row(row)
    if not lengths_differ(grouped(row)):
        raise NotSettled("there are neighbouring runs with the same length")
    return number_of(SettledPath(sum(row)), row)


class SettledPath:
    """A path through the settled rows with this sum; a step is an entry."""

    def __init__(self, total):
        self._table = SettledWays(total)
        self._left = total
        self._entries = []
        # The last run so far and the length of the run before it.
        self._number = 0
        self._length = 0
        self._before = 0
        # How many rows go on from here, and in how many of them the last run has no more entries.
        self._going_on = self._table.rows(total)
        self._complete = self._going_on

    def count_all(self):
        return self._table.rows(self._left)

    def is_done(self):
        return self._left == 0

    def ways(self, entry):
        if entry == self._number:
            return self._going_on - self._complete
        if self._length == 0:
            return self._table.begun(entry, self._left)
        if self._complete == 0:
            return 0
        same = self._table.begun_with(entry, self._length, self._left)
        return self._table.begun(entry, self._left) - same

    def go(self, entry):
        self._going_on = self.ways(entry)
        if entry != self._number:
            self._before = self._length
            self._number = entry
            self._length = 0
        self._length += 1
        self._left -= entry
        self._entries.append(entry)
        self._complete = 0
        # As long as the run before, the last one can't stay.
        if self._length != self._before:
            self._complete = self._table.behind(entry, self._length, self._left)

    def row_so_far(self):
        return tuple(self._entries)


def count_still(total):
    """Return the number of still rows with this sum."""
    check_total(total)
    return StillPath(total).count_all()


def nth_still(total, number):
    """Return the still row with this sum and this number."""
    check_total(total)
    return row_with(StillPath(total), number)


def still_number(row):
    """Return the number of the still row among the still rows with its sum."""
    check_row(row)
    runs = grouped(row)
    if not lengths_are_numbers(runs):
        raise NotStill("there is a run with a length that is not its number")
    return number_of(StillPath(sum(row)), [number for number, _ in runs])


class StillPath:
    """A path through the still rows with this sum; a step is the number of a run."""

    def __init__(self, total):
        self._begun = _still_ways(total)
        self._left = total
        self._last = 0
        self._entries = []

    def count_all(self):
        return sum(self._begun[self._left])

    def is_done(self):
        return self._left == 0

    def ways(self, number):
        if number == self._last:
            return 0
        return self._begun[self._left][number - 1]

    def go(self, number):
        self._left -= number * number
        self._last = number
        self._entries.extend([number] * number)

    def row_so_far(self):
        return tuple(self._entries)


def _still_ways(total):
    """Return for each sum up to the total a list: how many still rows begin with 1, with 2 and so on."""
    counts = [1]
    begun = [[]]
    for part in range(1, total + 1):
        ways = []
        left = part - 1
        while left >= 0:
            number = len(ways) + 1
            same = begun[left][number - 1] if number <= len(begun[left]) else 0
            ways.append(counts[left] - same)
            left = part - (number + 1) * (number + 1)
        counts.append(sum(ways))
        begun.append(ways)
    return begun
