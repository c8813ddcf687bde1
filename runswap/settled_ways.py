"""In how many ways settled rows begin and go on."""

from runswap.settled_counts import BEGUN_1, BEGUN_2, BEGUN_3, BEGUN_4, BEGUN_5, BEGUN_6, SETTLED
from runswap.settled_counts_more import BEGUN_7, BEGUN_8, BEGUN_9, BEGUN_10, BEGUN_11, BEGUN_12, BEGUN_13

# There are tables for rows that begin with a number up to this one.
MOST_TABLE = 13

# For greater numbers v: item n - 1 tells which tables are counted for the sum that is n * v less, and how often.
# The last one is asked for sums up to 4 only: behind 14 times the number 14.
SHARES = (
    ((0, 1), (1, -1)),
    ((0, 1), (2, -1)),
    ((0, -1), (1, 1), (2, 1), (3, -1)),
    ((3, 1), (4, -1)),
    ((0, -1), (3, 1), (4, 1), (5, -1)),
    ((0, 2), (1, -1), (3, -2), (4, 1), (5, 1), (6, -1)),
    ((0, -1), (1, 1), (2, -1), (3, 1), (4, -1), (5, 1), (6, 1), (7, -1)),
    ((0, -1), (2, 2), (4, -1), (5, -1), (6, 1), (7, 1), (8, -1)),
    ((0, 3), (1, -1), (2, -2), (6, -1), (7, 1), (8, 1), (9, -1)),
    ((0, -4), (1, 2), (2, 1), (4, 3), (5, -2), (7, -1), (8, 1), (9, 1), (10, -1)),
    ((0, 2), (1, -2), (2, 1), (3, -1), (4, -2), (5, 3), (6, -1), (8, -1), (9, 1), (10, 1), (11, -1)),
    ((0, 2), (2, -3), (3, 3), (4, -2), (6, 1), (7, -1), (9, -1), (10, 1), (11, 1), (12, -1)),
    ((0, -3), (1, 2), (2, 3), (3, -4), (4, 3), (5, -2), (7, 2), (8, -1), (10, -1), (11, 1), (12, 1), (13, -1)),
    ((1, -1), (2, -1), (3, 1), (4, -1)),
)
# A sum over steps of one size is kept for all sums if the steps are so small and so many.
SMALL_STEP = 3
MANY_STEPS = 16
# With fewer steps, adding one by one takes less time than slices.
SOME_STEPS = 5
# No run: its number is no entry, and no run has its length.
NO_RUN = (0, 201)


class SettledWays:
    """The numbers of settled rows that begin with a number, with a run, or behind a run.

    To write (k, v) for each run (v, k) makes a settled row from a settled row. So as many of them begin with a run
    of the length k as with one of the number k.
    """

    def __init__(self, total):
        # No greater sum is asked for.
        self._total = total
        self._tables = (SETTLED, BEGUN_1, BEGUN_2, BEGUN_3, BEGUN_4, BEGUN_5, BEGUN_6, BEGUN_7, BEGUN_8, BEGUN_9,
                        BEGUN_10, BEGUN_11, BEGUN_12, BEGUN_13)
        self._kept = {}

    def begun(self, number, part):
        """Return the number of settled rows with the sum `part` that begin with this number.

        Behind a run (v, k) stands a row that begins neither with v nor with a run of the length k. So the rows that
        begin with v are, for all k and j from 1 on, those with the sum part - j * k * v, less those of them that
        begin with v, less those of them that begin with k. Put the same in place of the rows that begin with v, and
        so on: what is left are tables for the sums part - n * v, each counted so often as n alone tells.
        """
        if number <= MOST_TABLE:
            return self._tables[number][part]
        ways = 0
        left = part - number
        for shares in SHARES:
            if left < 0:
                break
            for table, times in shares:
                ways += times * self._tables[table][left]
            left -= number
        return ways

    def behind(self, number, length, part):
        """Return in how many ways one can go on behind this run, with the sum `part`, which may be less than 0.

        These are the rows that don't begin with the number, and not with the length. The rows that begin with this
        very run are taken off twice so; there is one for each way to go on behind it, with a smaller sum.
        """
        step = number * length
        if step <= SMALL_STEP and part >= MANY_STEPS * step:
            return self._behind_all(number, length)[part]
        if number > MOST_TABLE or length > MOST_TABLE or part < SOME_STEPS * step:
            ways = 0
            left = part
            while left >= 0:
                ways += SETTLED[left] - self.begun(number, left) - self.begun(length, left)
                left -= step
            return ways
        same_number = self._tables[number]
        same_length = self._tables[length]
        return sum(SETTLED[part::-step]) - sum(same_number[part::-step]) - sum(same_length[part::-step])

    def _behind_all(self, number, length):
        """Return the same for all sums."""
        step = number * length
        key = (min(number, length), max(number, length))
        if key not in self._kept:
            same_number = self._tables[number]
            same_length = self._tables[length]
            ways = [SETTLED[part] - same_number[part] - same_length[part] for part in range(self._total + 1)]
            for part in range(step, self._total + 1):
                ways[part] += ways[part - step]
            self._kept[key] = ways
        return self._kept[key]

    def going_on(self, number, length, part):
        """Return how many rows with the sum `part` begin with this number, but not with this length of its run."""
        left = part - number * length
        if left < 0:
            return self.begun(number, part)
        return self.begun(number, part) - self.behind(number, length, left)

    def after(self, run, part):
        """Return how many rows with the sum `part` can stand behind this run."""
        number, length = run
        if number == 0:
            return SETTLED[part]
        return self.behind(number, length, part)

    def ways_below(self, number, run, part):
        """Return how many of them begin with a number lower than this, which is no greater than the sum."""
        last, length = run
        # The side with fewer numbers is counted.
        if number <= part - number + 1:
            return sum([self.going_on(other, length, part) for other in range(1, number) if other != last])
        above = sum([self.going_on(other, length, part) for other in range(number, part + 1) if other != last])
        return self.after(run, part) - above
