"""The rows before a row: those from which one round leads to it."""

from runswap.numbering import number_of, row_with
from runswap.rows import check_row
from runswap.turning import grouped, turned

# More than any row has entries.
NEVER = 1000


def has_before(row):
    """Tell whether there is a row before."""
    check_row(row)
    return _can_be_reached(grouped(row))


def _can_be_reached(runs):
    before = 0
    for _, length in runs:
        # Only one group of runs adds up to 1, or to 2, and it can't stand beside the same group.
        if length == before and length <= 2:
            return False
        before = length
    return True


def count_before(row):
    """Return the number of rows before."""
    check_row(row)
    runs = grouped(row)
    if not _can_be_reached(runs):
        return 0
    return BeforePath(runs).count_all()


def nth_before(row, number):
    """Return the row before with this number."""
    check_row(row)
    return row_with(BeforePath(grouped(row)), number)


def number_before(row):
    """Return the number of the row among the rows before the row to which it leads."""
    check_row(row)
    runs = grouped(row)
    return number_of(BeforePath(turned(runs)), [number for number, _ in runs])


class BeforePath:
    """A path through the rows before the row with these runs; a step is the number of a run."""

    def __init__(self, runs):
        self._runs = runs
        self._groups = _groups(runs)
        self._place = 0
        self._left = runs[0][1]
        self._last = 0
        self._entries = []

    def count_all(self):
        return sum(self._groups[0][-1])

    def is_done(self):
        return self._place == len(self._runs)

    def ways(self, number):
        if number == self._last:
            return 0
        return self._groups[self._place][self._left][number - 1]

    def go(self, number):
        self._entries.extend([number] * self._runs[self._place][0])
        self._last = number
        self._left -= number
        if self._left == 0:
            self._place += 1
            if not self.is_done():
                self._left = self._runs[self._place][1]

    def row_so_far(self):
        return tuple(self._entries)


def _groups(runs):
    """Return for each run of a row what `_group` tells of the group of runs before it."""
    groups = []
    ends = [1] * runs[-1][1]
    for place in range(len(runs) - 1, -1, -1):
        group = _group(runs[place][1], ends)
        groups.append(group)
        if place > 0:
            ends = _ends(group[-1], runs[place - 1][1])
    groups.reverse()
    return groups


def _ends(ways, most):
    """Return in how many ways one can go on behind the numbers from 1 to the greatest one."""
    total = sum(ways)
    # No number follows itself; numbers above those that can follow exclude nothing.
    return [total - same for same in ways[:most]] + [total] * (most - len(ways))


def _group(length, ends):
    """Return in how many ways one can go on in a group whose numbers add up to the length.

    Item s of the list is for numbers that still have to add up to s: a list that has at index v - 1 in how many
    ways one can go on with the number v. Item v - 1 of `ends` is in how many ways one can go on behind the
    group if its last number is v.
    """
    totals = [0]
    group = [[]]
    for left in range(1, length + 1):
        half = left // 2
        ways = [totals[left - number] - group[left - number][number - 1] for number in range(1, half + 1)]
        # Numbers above the half are greater than what is left behind them, so they can't follow themselves.
        ways.extend(totals[left - half - 1:0:-1])
        ways.append(ends[left - 1])
        totals.append(sum(ways))
        group.append(ways)
    return group


def entry_range(row):
    """Return the least and the greatest number of entries of the rows before, or None if there is none."""
    check_row(row)
    runs = grouped(row)
    if not _can_be_reached(runs):
        return None
    return (_least(runs, 1), -_least(runs, -1))


def _least(runs, sign):
    """Return the least number of entries of the rows before, each entry counted as 1 or as -1."""
    best = (0, 0, 0)
    for number, length in reversed(runs):
        best = _best_group(sign * number, length, best)
    return best[0]


def _best_group(cost, length, behind):
    """Return the best of a group of runs and of all that follows, if the numbers add up to the length.

    The best are three integers: the least cost, a number that it begins with, and the least cost if it begins
    with any other number.
    """
    best = [behind]
    for left in range(1, length + 1):
        ways = sorted([(cost + _cost_behind(best[left - number], number), number) for number in _numbers(left)])
        other = ways[1][0] if len(ways) > 1 else NEVER
        best.append((ways[0][0], ways[0][1], other))
    return best[length]


def _cost_behind(best, number):
    """Return the least cost of what follows this number, which can't be the same number."""
    return best[2] if best[1] == number else best[0]


def _numbers(left):
    """Return the numbers to try first in the search for the fewest and for the most runs that add up to `left`.

    A number of at least 5 can be split by taking 1 or 2 off its front or its end, four ways, of which each
    neighbour excludes at most one. So the most runs have numbers up to 4. For the same reason two runs are always
    enough, one of them with the number 1 or 2.
    """
    if left < 8:
        return list(range(1, left + 1))
    return [1, 2, 3, 4, left - 2, left - 1, left]
