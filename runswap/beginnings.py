"""In how many ways a sum begins with a step, if no step follows itself; steps in ascending order."""

# With so many terms a column for all sums takes less time than one sum after the other.
MANY_TERMS = 40


class Beginnings:
    """Steps that add up to a sum; neighbouring steps are different.

    A step weighs as much as itself, or its square. Item s of `counts` tells in how many ways one can go on with the
    sum s, and `ends` in how many ways behind the last step, for the steps from 1 on (None: in one way).
    """

    def __init__(self, counts, ends, most, squares):
        self._counts = counts
        self._ends = ends
        # No greater sum is asked for.
        self._most = most
        self._squares = squares
        self._columns = {}

    def total_ways(self):
        """Return in how many ways one can go on with the greatest sum."""
        return self._counts[self._most]

    def begun(self, most):
        """Return in how many of these ways one begins with 1, with 2 and so on, up to the step `most`."""
        return [self.ways(step, self._most) for step in range(1, min(most, self._most) + 1)]

    def ways(self, step, left):
        """Return in how many ways one can go on with this sum, beginning with the step.

        Behind the step stands what does not begin with it: all ways with the rest, less those with the rest that
        begin with the step. For these the same holds, so the counts are added and taken off in turn.
        """
        weight = step * step if self._squares else step
        rest = left - weight
        if rest <= 0:
            return self._end(step) if rest == 0 else 0
        counts = self._counts
        if rest < weight:
            return counts[rest]
        if left >= MANY_TERMS * weight:
            return self._column(step, weight)[left]
        ways = sum(counts[rest:0:-2 * weight]) - sum(counts[rest - weight:0:-2 * weight])
        times = left // weight
        if times * weight < left:
            return ways
        return ways + self._end(step) if times % 2 == 1 else ways - self._end(step)

    def _end(self, step):
        return 1 if self._ends is None else self._ends[step - 1]

    def _column(self, step, weight):
        """Return the same for all sums."""
        if step not in self._columns:
            column = [0] * weight + [self._end(step)]
            for rest in range(1, self._most + 1 - weight):
                column.append(self._counts[rest] - column[rest])
            self._columns[step] = column
        return self._columns[step]

    def step_at(self, last, left, rank):
        """Return the step behind the last one on the way with this number, and its number among the ways with it."""
        step = 0
        count = 0
        while rank >= count:
            rank -= count
            step += 1
            count = self.ways(step, left) if step != last else 0
        return (step, rank)

    def ways_below(self, last, left, step):
        """Return in how many ways one can go on behind the last step with a lower step than this."""
        # The side with fewer steps is counted.
        if step <= left - step + 1:
            return sum([self.ways(other, left) for other in range(1, step) if other != last])
        lower = self._counts[left] - sum([self.ways(other, left) for other in range(step, left + 1)])
        return lower - self.ways(last, left) if 0 < last < step else lower


class CountedBeginnings:
    """The same for a sum of few steps, or of steps with many different ends, counted step by step.

    Item s of the table is a list of the ways to go on with the sum s, beginning with 1, with 2 and so on.
    """

    def __init__(self, table):
        self._table = table

    def total_ways(self):
        return sum(self._table[-1])

    def begun(self, most):
        return list(self._table[-1][:most])

    def step_at(self, last, left, rank):
        ways = self._table[left]
        step = 0
        count = 0
        while rank >= count:
            rank -= count
            step += 1
            count = ways[step - 1] if step != last else 0
        return (step, rank)

    def ways_below(self, last, left, step):
        ways = self._table[left]
        lower = sum(ways[:step - 1])
        return lower - ways[last - 1] if 0 < last < step and last <= left else lower


def counted_ways(length, ends):
    """Return the table of CountedBeginnings for sums up to the length, which is at least 3."""
    # 1 and 2 can only be themselves.
    totals = [0, ends[0], ends[1]]
    sums = [0, ends[0], ends[0] + ends[1]]
    table = [[], [ends[0]], [0, ends[1]]]
    for left in range(3, length + 1):
        half = left // 2
        ways = [totals[left - number] - table[left - number][number - 1] for number in range(1, half + 1)]
        total = sum(ways) + sums[left - half - 1] + ends[left - 1]
        # Numbers above the half are greater than what is left behind them, so they can't follow themselves.
        ways.extend(totals[left - half - 1:0:-1])
        ways.append(ends[left - 1])
        totals.append(total)
        sums.append(sums[left - 1] + total)
        table.append(ways)
    return table
