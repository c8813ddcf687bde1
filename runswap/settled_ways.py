"""How many settled rows there are with each sum up to one, and how they begin."""

from math import isqrt


class SettledWays:
    """The numbers of settled rows with the sums from 0 to `total`: of all, and of those that begin with a number.

    The numbers for all sums are packed into one integer, that for the sum s in the bits from total * s on: none is
    greater than 2 ** (total - 1). So one addition adds the numbers for many sums.

    To write (k, v) for each run (v, k) makes a settled row from a settled row. So as many of them begin with a run
    of the length k as with one of the number k.
    """

    def __init__(self, total):
        self._total = total
        # With the sum 0 there is one way to go on: not at all.
        self._rows = 1
        self._begun = [0] * (total + 1)
        self._behind = {}
        blocks = _blocks(total)
        for part in range(1, total + 1):
            # The numbers for the sums below `part` are complete here.
            self._put(part, self._found(part, [block for block in blocks if part % block[0] == 0]))

    def _found(self, part, blocks):
        """Return what arises if a run of a block stands in front of rows; packed from the sum `part` on.

        For a block with the size s, these are the rows with the sums from part - s to part - 1. As its runs have at
        least the sum s, nothing that arises has a sum below `part`. Item v is the number of those that begin
        with v. Item k of `kept` is the number of rows that begin with run k, packed from the sum part - s on.
        """
        bits = self._total
        found = [0] * (2 * blocks[-1][0])
        for size, runs, kept in blocks:
            first = part - size
            # The greatest of these sums may leave no room for a run in front.
            mask = (1 << (bits * min(size, bits + 1 - part))) - 1
            rows = (self._rows >> (bits * first)) & mask
            begun = [(packed >> (bits * first)) & mask for packed in self._begun[:2 * size]]
            for place, (number, length) in enumerate(runs):
                added = number * length
                if first + added > bits:
                    break
                # The next run has another number and another length; the rows with both are taken off twice.
                ways = rows - begun[number] - begun[length] + (kept[place] & mask)
                ways = ways << (bits * (added - size))
                kept[place] = (kept[place] >> (bits * size)) + ways
                found[number] += ways
                if number != length:
                    found[length] += ways
        return found

    def _put(self, part, found):
        """Add what was found."""
        bits = self._total
        # Sums above the total are not asked for.
        mask = (1 << (bits * (bits + 1 - part))) - 1
        self._rows += (sum(found) & mask) << (bits * part)
        for number, ways in enumerate(found):
            if ways != 0:
                self._begun[number] += (ways & mask) << (bits * part)

    def rows(self, part):
        """Return the number of settled rows with the sum `part`."""
        return self._at(self._rows, part)

    def begun(self, number, part):
        """Return the number of those that begin with this number."""
        return self._at(self._begun[number], part)

    def begun_with(self, number, length, part):
        """Return the number of those that begin with this run."""
        return self.behind(number, length, part - number * length)

    def behind(self, number, length, part):
        """Return in how many ways one can go on behind this run, with the sum `part`."""
        if part < 0:
            return 0
        key = (number, length)
        if key not in self._behind:
            self._behind[key] = self._all_behind(number, length)
        return self._at(self._behind[key], part)

    def _all_behind(self, number, length):
        """Return the same for all sums, packed."""
        bits = self._total
        ways = self._rows - self._begun[number] - self._begun[length]
        # The rows that begin with this very run are taken off twice. There is one for each way to go on behind it.
        jump = number * length
        while jump <= bits:
            ways += ways << (bits * jump)
            jump *= 2
        return ways & ((1 << (bits * (bits + 1))) - 1)

    def _at(self, packed, part):
        """Return the number for the sum `part`."""
        return (packed >> (self._total * part)) & ((1 << self._total) - 1)


def _blocks(total):
    """Return tuples of a size, the runs with a sum from it to twice it less 1, and as many zeros.

    The sizes are the powers of 2. The runs are in the order of their sums; of (v, k) and (k, v) one is there.
    """
    blocks = []
    size = 1
    while size <= total:
        runs = [(number, added // number)
                for added in range(size, min(2 * size, total + 1))
                for number in range(1, isqrt(added) + 1)
                if added % number == 0]
        blocks.append((size, runs, [0] * len(runs)))
        size *= 2
    return blocks
