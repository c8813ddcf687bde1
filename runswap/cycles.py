"""Settled and still rows with a sum: how many there are, and their numbers in ascending order."""

from runswap.beginnings import Beginnings
from runswap.checks import check_number, check_total
from runswap.counts import STILL
from runswap.errors import NotSettled, NotStill
from runswap.rows import check_row
from runswap.settled_counts import SETTLED
from runswap.settled_ways import NO_RUN, SettledWays
from runswap.turning import grouped, lengths_are_numbers, lengths_differ, spread


def count_settled(total):
    """Return the number of settled rows with this sum."""
    check_total(total)
    return SETTLED[total]


def nth_settled(total, number):
    """Return the settled row with this sum and this number."""
    check_total(total)
    check_number(number, SETTLED[total])
    ways = SettledWays(total)
    runs = []
    run = NO_RUN
    left = total
    # The number of the row among those that begin with the same runs.
    rank = number
    while left > 0:
        before = run[1]
        entry, count, rank = _entry_behind(ways, run, left, rank)
        length, rank = _length_behind(ways, entry, before, left, count, rank)
        run = (entry, length)
        runs.append(run)
        left -= entry * length
    return spread(runs)


def _entry_behind(ways, run, left, rank):
    """Return the entry behind a run, how many rows have it there, and the number of the row among these."""
    last, length = run
    entry = 1
    count = ways.going_on(1, length, left) if last != 1 else 0
    while rank >= count:
        rank -= count
        entry += 1
        count = ways.going_on(entry, length, left) if last != entry else 0
    return (entry, count, rank)


def _length_behind(ways, entry, before, left, count, rank):
    """Return the length of a run behind one of the length `before`, and the number of the row among those with it.

    The rows in which the run ends and a lower number follows come first, then those in which it is longer, then
    those in which it ends and a greater number follows.
    """
    if entry == 1:
        return _length_of_ones(ways, before, left, count, rank)
    longer = count
    length = 1
    rest = left - entry
    while rest >= entry:
        if length != before:
            longer -= ways.behind(entry, length, rest)
            lower = ways.ways_below(entry, (entry, length), rest)
            if rank < lower:
                break
            if rank >= lower + longer:
                rank -= longer
                break
            rank -= lower
        length += 1
        rest -= entry
    return (length, rank)


def _length_of_ones(ways, before, left, count, rank):
    """Return the same for a run of ones: no number is lower, so the longer the run, the lower the row."""
    # The numbers of rows grow with each entry: half as many digits are reached with half as many entries.
    if 2 * rank.bit_length() < count.bit_length():
        return _length_of_many_ones(ways, before, left, rank)
    longer = count
    length = 0
    while rank < longer:
        length += 1
        if length != before:
            longer -= ways.behind(1, length, left - length)
    return (length, rank - longer)


def _length_of_many_ones(ways, before, left, rank):
    """Return the same, tried from the longest run on."""
    length = left + 1
    ending = 0
    while rank >= ending:
        rank -= ending
        length -= 1
        ending = ways.behind(1, length, left - length) if length != before else 0
    return (length, rank)


def settled_number(row):
    """Return the number of the settled row among the settled rows with its sum."""
    check_row(row)
    runs = grouped(row)
    if not lengths_differ(runs):
        raise NotSettled("there are neighbouring runs with the same length")
    left = sum(row)
    ways = SettledWays(left)
    number = 0
    run = NO_RUN
    for place, (entry, length) in enumerate(runs):
        before = run[1]
        number += ways.ways_below(entry, run, left)
        number += sum([ways.ways_below(entry, (entry, shorter), left - entry * shorter)
                       for shorter in range(1, length) if shorter != before])
        if place + 1 < len(runs) and runs[place + 1][0] > entry:
            number += _longer(ways, entry, length, before, left)
        run = (entry, length)
        left -= entry * length
    return number


def _longer(ways, entry, length, before, left):
    """Return in how many rows a run behind one of the length `before` is longer than this."""
    most = left // entry
    if most - length <= length:
        return sum([ways.behind(entry, other, left - entry * other)
                    for other in range(length + 1, most + 1) if other != before])
    shorter = [ways.behind(entry, other, left - entry * other) for other in range(1, length + 1) if other != before]
    return ways.going_on(entry, before, left) - sum(shorter)


def count_still(total):
    """Return the number of still rows with this sum."""
    check_total(total)
    return STILL[total]


def nth_still(total, number):
    """Return the still row with this sum and this number."""
    check_total(total)
    check_number(number, STILL[total])
    begun = Beginnings(STILL, None, total, True)
    runs = []
    entry = 0
    left = total
    rank = number
    while left > 0:
        entry, rank = begun.step_at(entry, left, rank)
        runs.append((entry, entry))
        left -= entry * entry
    return spread(runs)


def still_number(row):
    """Return the number of the still row among the still rows with its sum."""
    check_row(row)
    runs = grouped(row)
    if not lengths_are_numbers(runs):
        raise NotStill("there is a run with a length that is not its number")
    left = sum(row)
    begun = Beginnings(STILL, None, left, True)
    number = 0
    last = 0
    for entry, _ in runs:
        number += begun.ways_below(last, left, entry)
        last = entry
        left -= entry * entry
    return number
