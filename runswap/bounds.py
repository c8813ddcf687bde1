"""What a round joins, and how many rounds rows need at most."""

from math import isqrt

from runswap.checks import check_rounds, check_total
from runswap.rows import check_row
from runswap.turning import grouped

MOST_NEEDED = 24


def joined_runs(row):
    """Return the groups of runs that one round joins, as lists of their indexes."""
    check_row(row)
    groups = []
    group = []
    before = 0
    for index, (_, length) in enumerate(grouped(row)):
        if length != before:
            group = []
        group.append(index)
        if len(group) == 2:
            groups.append(group)
        before = length
    return groups


def most_rounds(total):
    """Return the greatest number of rounds that a row with this sum needs until it is settled."""
    check_total(total)
    if total <= 2:
        return 0
    if total <= 8:
        return 1
    return isqrt(4 * total + 1) - 4


def slowest_row(total):
    """Return a row with this sum that needs as many rounds as any."""
    check_total(total)
    if total <= 2:
        return (total,)
    if total <= 8:
        return (1, total - 1)
    root = isqrt(total)
    ahead = total - root * root
    behind = 0
    # As many ones behind the descent join what it leads to, the root so many times: one round more.
    if ahead >= root:
        ahead -= root
        behind = root
    # A single 1 ahead would join the first run of the descent in the first round.
    if ahead == 1:
        ahead, behind = behind, 1
    return (1,) * ahead + _descent(root) + (1,) * behind


def _descent(root):
    """Return a row with the sum root * root that needs 2 * root - 4 rounds, for a root of at least 3."""
    # Two rounds turn 3 1 1 2 2 into 3 3 3, two more turn 4 1 1 1 3 3 3 into 4 4 4 4, and so on.
    row = []
    for number in range(root, 2, -1):
        row.append(number)
        row.extend([1] * (number - 1))
    return tuple(row + [2, 2])


def least_total(rounds):
    """Return the least sum of a row that needs so many rounds, 0 to 24."""
    check_rounds(rounds, MOST_NEEDED)
    if rounds == 0:
        return 1
    if rounds == 1:
        return 3
    # The least sum S for which 4 * S + 1 is at least the square of rounds + 4.
    return (rounds + 4) * (rounds + 4) // 4
