"""The rows before a row: those from which one round leads to it."""

from runswap.beginnings import Beginnings, CountedBeginnings, counted_ways
from runswap.checks import check_number
from runswap.counts import DIFFERENT, DIFFERENT_BEGUN
from runswap.rows import check_row
from runswap.turning import grouped, spread, turned

# More than any row has entries.
NEVER = 1000
# With no more columns than this part of its length, a group is counted by columns, else number by number.
FEW_COLUMNS = 5
# Behind the last group there is one way to go on, and no number with which it begins.
BEHIND_ALL = (1, ())


def has_before(row):
    """Tell whether there is a row before."""
    check_row(row)
    return _can_be_reached(grouped(row))


def _can_be_reached(runs):
    before = 0
    for _, length in runs:
        # Only one group of runs adds up to 1, or to 2, and it can't stand beside the same group.
        if length == before and length <= 2:
            return False
        before = length
    return True


def count_before(row):
    """Return the number of rows before."""
    check_row(row)
    runs = grouped(row)
    if not _can_be_reached(runs):
        return 0
    behind = BEHIND_ALL
    for place in range(len(runs) - 1, 0, -1):
        _, behind = _with_group(runs[place][1], runs[place - 1][1], behind)
    total, begun = behind
    length = runs[0][1]
    if length < len(DIFFERENT_BEGUN):
        ends = DIFFERENT_BEGUN[length]
    else:
        ends = Beginnings(DIFFERENT, None, length, False).begun(len(begun))
    # All ways but those in which the first group ends with the number with which the next one begins.
    return DIFFERENT[length] * total - sum([ways * same for ways, same in zip(ends, begun)])


def nth_before(row, number):
    """Return the row before with this number."""
    check_row(row)
    runs = grouped(row)
    if not _can_be_reached(runs):
        check_number(number, 0)
    groups, total = _groups(runs)
    check_number(number, total)
    rank = number
    before = []
    last = 0
    for group, (copies, length) in zip(groups, runs):
        if group is None:
            last = length
            before.append((last, copies))
            continue
        left = length
        while left > 0:
            last, rank = group.step_at(last, left, rank)
            before.append((last, copies))
            left -= last
    return spread(before)


def number_before(row):
    """Return the number of the row among the rows before the row to which it leads."""
    check_row(row)
    runs = grouped(row)
    later = turned(runs)
    groups, _ = _groups(later)
    place = 0
    left = later[0][1]
    last = 0
    found = 0
    for number, _ in runs:
        if left == 0:
            place += 1
            left = later[place][1]
        if number > 1 and groups[place] is not None:
            found += groups[place].ways_below(last, left, number)
        last = number
        left -= number
    return found


def _groups(runs):
    """Return for each run of a row in how many ways the group before it can begin, and in how many all of them can."""
    groups = []
    behind = BEHIND_ALL
    for place in range(len(runs) - 1, -1, -1):
        ahead = runs[place - 1][1] if place > 0 else 0
        group, behind = _with_group(runs[place][1], ahead, behind)
        groups.append(group)
    groups.reverse()
    return (groups, behind[0])


def _with_group(length, ahead, behind):
    """Return in how many ways a group with this length can begin, and what the group ahead of it must know.

    None stands for a group that can only be its length. What is known of all behind a group is in how many ways it
    can go on, and in how many of them with the number 1, with 2 and so on, up to the length of the group.
    """
    total, begun = behind
    if length <= 2:
        if length <= len(begun):
            total -= begun[length - 1]
        return (None, (total, (total,) if length == 1 else (0, total)))
    if not begun:
        if length < len(DIFFERENT_BEGUN):
            group = CountedBeginnings(DIFFERENT_BEGUN[:length + 1])
        else:
            group = Beginnings(DIFFERENT, None, length, False)
    else:
        # No number follows itself; numbers above those that can follow exclude nothing.
        ends = [total - same for same in begun[:length]] + [total] * (length - len(begun))
        if length <= FEW_COLUMNS * len(begun):
            group = CountedBeginnings(counted_ways(length, ends))
        else:
            group = Beginnings(_counts(length, total, begun), ends, length, False)
    return (group, (group.total_ways(), group.begun(ahead)))


def _counts(length, total, begun):
    """Return in how many ways numbers can add up to each sum up to the length, and go on behind their group.

    There are `total` ways to go on, but behind the number v these are less by item v - 1 of `begun`.
    """
    counts = [total * ways for ways in DIFFERENT[:length + 1]]
    for number, same in enumerate(begun, 1):
        # In how many ways the sum ends with the number: as in Beginnings.
        ending = [0] * number + list(DIFFERENT[:min(number, length + 1 - number)])
        for rest in range(number, length + 1 - number):
            ending.append(DIFFERENT[rest] - ending[rest])
        counts = [count - same * ways for count, ways in zip(counts, ending)]
    return counts


def entry_range(row):
    """Return the least and the greatest number of entries of the rows before, or None if there is none."""
    check_row(row)
    runs = grouped(row)
    if not _can_be_reached(runs):
        return None
    fewest = (0, 0, 0)
    most = (0, 0, 0)
    for copies, length in reversed(runs):
        fewest = _fewest(copies, length, fewest)
        most = _most(copies, length, most)
    return (fewest[0], most[0])


def _fewest(copies, length, behind):
    """Return how few entries a group and all behind it can have.

    There are so many copies of each number of the group, and the numbers add up to the length. What is returned, and
    what is known of all behind, are three integers: the fewest entries, a number with which they begin, and the
    fewest entries if they begin with any other number.
    """
    best, first, other = behind
    single = copies + (other if first == length else best)
    if length <= 2:
        return (single, length, NEVER)
    # Two numbers can begin and end with several numbers, so what follows never stands in their way.
    double = 2 * copies + best
    if single <= double:
        return (single, length, double)
    return (double, 1, double)


def _most(copies, length, behind):
    """Return the same for the most entries.

    The most numbers that add up to the length are 1 and 2 in turn; one of them may be greater by 1. If the length is
    a multiple of 3, they begin with one of 1 and 2 and end with the other. If it is greater by 1, they begin and end
    with 1; if it is greater by 2, they begin and end with 1, or begin and end with 2. With one number less, they can
    begin with any other number, or end with another one than the number that follows; with two less, both.
    """
    best, first, other = behind
    if length <= 2:
        return (copies + (other if first == length else best), length, -NEVER)
    most = copies * ((2 * length + 1) // 3)
    if length % 3 == 1 and first != 1:
        return (most + best, 1, most - copies + best)
    if length % 3 == 1:
        return (max(most + other, most - copies + best), 1, max(most - copies + other, most - 2 * copies + best))
    if first == 0:
        return (most, 1, most)
    # One way begins with this number and ends with the number that does not follow, which is 1 or 2, too.
    begin = first if length % 3 == 0 else 3 - first
    return (most + best, begin, max(most + other, most - copies + best))
