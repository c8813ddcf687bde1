"""Rows for the tests, and rounds counted without the package."""

import sys
from itertools import groupby


def rows_with_sum(total):
    """All rows with this sum."""
    if total == 0:
        return [()]
    return [(first,) + rest
            for first in range(1, total + 1)
            for rest in rows_with_sum(total - first)]


def rows_up_to(total):
    """All rows with at most this sum."""
    return [row for part in range(1, total + 1) for row in rows_with_sum(part)]


def filled_row(entries, total):
    """As many of the entries, over and over, as fit, and one entry for what is left."""
    row = []
    left = total
    place = 0
    while entries[place % len(entries)] <= left:
        row.append(entries[place % len(entries)])
        left -= row[-1]
        place += 1
    if left:
        row.append(left)
    return tuple(row)


def slow_row(root):
    """A row with the sum root ** 2 in which the joined runs let the next ones join, round by round."""
    entries = []
    for number in range(root, 2, -1):
        entries.extend([number] + [1] * (number - 1))
    return tuple(entries + [2, 2])


def great_rows():
    """Rows with sums from 190 to 200 of many shapes."""
    stairs = tuple(range(1, 20))
    rows = [(200,), (1,) * 200, (199, 1), (1, 199), (100, 100), (99, 101), (2,) * 100,
            stairs, stairs[::-1], stairs + (10,), stairs + (1,) * 10, (1, 2) * 66 + (1,),
            (1, 1, 2) * 50, (14,) * 14, (3,) * 65 + (5,), (1, 1, 2, 1, 1, 3, 3) * 16]
    shapes = [(1, 2, 3), (5, 4, 3, 2, 1), (1, 1, 2, 2, 3, 3), (1, 2, 2, 3, 3, 3),
              (7, 1, 1, 7, 1), (2, 1, 2, 3), (1, 1, 1, 2, 3, 2), (4, 4, 1, 2, 1)]
    for total in (190, 197, 199, 200):
        rows = rows + [filled_row(shape, total) for shape in shapes]
    slow = [slow_row(14), slow_row(14)[::-1], slow_row(14) + (4,), (1,) + slow_row(14), (13,) * 2 + slow_row(13),
            slow_row(13) + (31,), slow_row(10) * 2, slow_row(14)[1:] + (14,)]
    return rows + slow


def plain_runs(row):
    """The runs of a row."""
    return [(number, len(list(group))) for number, group in groupby(row)]


def plain_round(row):
    """The row after one round, entry by entry."""
    entries = []
    for number, group in groupby(row):
        length = len(list(group))
        for _ in range(number):
            entries.append(length)
    return tuple(entries)


def plain_rows(row, count):
    """The rows after 0, 1 and so on rounds, so many in all."""
    rows = [row]
    while len(rows) < count:
        rows.append(plain_round(rows[-1]))
    return rows


def plain_way(row):
    """The rows up to the first one that comes again, judged by playing on alone."""
    way = [row]
    # A row that comes again does so after two rounds ([2] (b)).
    while plain_round(plain_round(way[-1])) != way[-1]:
        way.append(plain_round(way[-1]))
    return way


def plain_settled(row):
    """Whether the row comes again."""
    return plain_round(plain_round(row)) == row


def plain_still(row):
    return plain_round(row) == row


def plain_turned(runs):
    """The runs after one round, played on the runs: for rows that are too long to be spread out."""
    return [(length, sum(number for number, _ in group)) for length, group in groupby(runs, key=lambda run: run[1])]


def plain_joined(blocks):
    """The runs of a long row."""
    return [(number, sum(length for _, length in group)) for number, group in groupby(blocks, key=lambda run: run[0])]


def plain_spread(blocks):
    return tuple(number for number, length in blocks for _ in range(length))


def rows_before(total):
    """For each row with this sum the rows that lead to it in one round, in ascending order."""
    before = {row: [] for row in rows_with_sum(total)}
    for row in sorted(before):
        before[plain_round(row)].append(row)
    return before


def settled_counts(total):
    """Numbers of settled rows with the sums from 0 to this one, counted run by run.

    Of all; for each sum, by their last number; for each sum, by their last run.
    """
    counts = [1] + [0] * total
    numbers = [[0] * (total + 1) for _ in range(total + 1)]
    lengths = [[0] * (total + 1) for _ in range(total + 1)]
    runs = [{} for _ in range(total + 1)]
    for part in range(1, total + 1):
        for number in range(1, part + 1):
            for length in range(1, part // number + 1):
                rest = part - number * length
                count = (counts[rest] - numbers[rest][number] - lengths[rest][length]
                         + runs[rest].get((number, length), 0))
                runs[part][number, length] = count
                counts[part] += count
                numbers[part][number] += count
                lengths[part][length] += count
    return counts, numbers, runs


def still_counts(total):
    """The numbers of still rows with the sums from 0 to this one."""
    ends = [{0: 1}]
    for part in range(1, total + 1):
        ends.append({number: sum(count for last, count in ends[part - number ** 2].items() if last != number)
                     for number in range(1, 15) if number ** 2 <= part})
    return [sum(by_last.values()) for by_last in ends]


def different_counts(total):
    """In how many ways each sum up to this one can be written as numbers of which no neighbours are equal, by the last."""
    ends = [{0: 1}]
    for part in range(1, total + 1):
        ends.append({last: sum(ends[part - last].values()) - ends[part - last].get(last, 0)
                     for last in range(1, part + 1)})
    return ends


def run_counts_of_sums(total):
    """For each sum up to this one the numbers of rows with 0, 1, 2 and so on runs, counted entry by entry."""
    none = [0] * (total + 1)
    found = [[1] + none[1:]]
    # By the sum and the last number: another entry of this number makes the last run longer.
    ends = [{}]
    for part in range(1, total + 1):
        by_last = {}
        for last in range(1, part + 1):
            longer = ends[part - last].get(last, none)
            other = [count - less for count, less in zip(found[part - last], longer)]
            by_last[last] = [count + more for count, more in zip([0] + other, longer)]
        found.append([sum(column) for column in zip(*by_last.values())])
        ends.append(by_last)
    return found


def picked_numbers(count):
    """Some of the numbers from 0 to count - 1, in ascending order: the first and last ones, and some between."""
    picked = {0, 1, 2, count // 7, count // 3, count // 2, count - count // 5, count - 3, count - 2, count - 1}
    for part in range(1, 8):
        picked.add(count * 31415926535 * part // 10 ** 11 % count if count else 0)
    return sorted(number for number in picked if 0 <= number < count)


def nested(depth):
    """A tuple nested so many levels deep."""
    value = (1,)
    for _ in range(depth - 1):
        value = (value,)
    return value


NO_KIND = [None, True, False, 0, 3, -1, 10 ** 5000, "", "1 2", "12", "3*2", b"\x01\x02",
           {}, {1: 1}, {1, 2}, frozenset({1}), range(1, 3), object(), int, len, ValueError("x")]

NO_ROWS = NO_KIND + [
    (), [], [1], [1, 2, 3, 3], [(1, 1), (2, 1)], (0,), (1, 0), (0, 1), (1, 0, 1), (-1,), (-1, 5), (5, -1),
    (True,), (1, True), (True, 1), (False,), ("1",), (1, "2"), ("", 1), (b"1",), (None,), (1, None),
    ((1,),), ([1],), (1, (2,)), (1, [2]), ((1, 1), (2, 1)), (len,), (201,), (200, 1), (1, 200),
    (100, 101), (1,) * 201, (2,) * 101, (1,) * 100000, (10 ** 30,), (10 ** 5000,), (1, 10 ** 5000),
    (10 ** 64, -10 ** 64), (300, -200), (-10 ** 5000,), nested(20)]

NO_RUNS = NO_KIND + [
    (), [], (1, 2), ((1, 1),), ((1, 1), (2, 1)), [1], [1, 2], [None], ["12"], [b"12"], [[]], [()],
    [[1, 1]], [(1, 1), [2, 1]], [[1, 1], (2, 1)], [(1,)], [(1, 1, 1)], [(1, 1), (2,)],
    [(1, 1), (2, 1, 1)], [(1, 1), None], [{1: 1, 2: 2}], [{1, 2}],
    [(0, 1)], [(1, 0)], [(0, 0)], [(2, 1), (0, 5)], [(2, 1), (1, 0)], [(-1, 1)], [(1, -1)], [(-1, -5)],
    [(True, 1)], [(1, True)], [(False, 1)], [("1", 1)], [(1, "1")], [(None, 1)], [(1, None)],
    [((1,), 1)], [(1, [1])], [(1, 1), (1, 1)], [(3, 1), (3, 1)], [(1, 1), (1, 2)],
    [(2, 1), (1, 1), (1, 1)], [(2, 2), (1, 2), (2, 3), (2, 1)], [(201, 1)], [(1, 201)], [(3, 67)],
    [(100, 2), (1, 1)], [(10, 20), (1, 1)], [(1, 1), (10, 20)], [(200, 1), (1, 1)], [(1, 10 ** 5000)],
    [(10 ** 5000, 1)], [(1, 1), (2, 1)] * 67, [(1, 1)] * 300, [nested(20)]]

NO_ROUNDS = [None, True, False, -1, -10 ** 30, 10 ** 30 + 1, 10 ** 64 - 1, 10 ** 5000, -10 ** 5000,
             "", "1", b"1", (), (1,), [], [1], {}, {1: 1}, {1}, object(), int, len]

NO_INTEGERS = [None, True, False, "", "1", b"1", (), (1,), [], [1], {}, {1: 1}, {1}, object(), int, len, range(3),
               ValueError("x"), nested(20)]

NO_TOTALS = NO_INTEGERS + [0, -1, -200, 201, 202, 10 ** 30, 10 ** 64 - 1, -10 ** 30, 10 ** 5000, -10 ** 5000]

# Wrong wherever numbers of rows are counted from 0.
NO_NUMBERS = NO_INTEGERS + [-1, -2, -10 ** 30, 10 ** 64 - 1, 2 ** 200, 10 ** 5000, -10 ** 5000]

NO_RUN_COUNTS = NO_TOTALS

NO_NEEDS = NO_INTEGERS + [-1, 25, 26, 10 ** 30, -10 ** 30, 10 ** 5000, -10 ** 5000]


NO_ROW_ROUNDS = NO_ROUNDS + [ValueError("x"), nested(20)]

MANY = 10 ** 28

NO_BLOCKS = NO_KIND + [
    (), [], [(1, 1)], [[1, 1]], [(1, 1), (2, 1)], (1, 2), (1,), ((),), ([],), ((), ()), ([1, 1],), ((1, 1), [2, 1]),
    ([1, 1], (2, 1)), ((1,),), ((1, 1, 1),), ((1, 1), (2,)), ((1, 1), (2, 1, 1)), ((1, 1), None), (None, (1, 1)),
    ("12",), (b"12",), ({1: 1, 2: 2},), ({1, 2},), ((0, 1),), ((1, 0),), ((-1, 1),), ((1, -1),), ((-1, -1),),
    ((True, 1),), ((1, True),), ((False, 1),), ((1, 1), (True, 1)), (("1", 1),), ((1, "1"),), ((None, 1),),
    ((1, None),), (((1,), 1),), ((1, [1]),), ((MANY + 1, 1),), ((1, MANY + 1),), ((10 ** 5000, 1),),
    ((1, 10 ** 5000),), ((1, 1), (2, MANY + 1)), ((1, 1),) * 201, ((1, 1), (2, 1)) * 101, ((1, 1),) * 100000,
    nested(20)]

NO_ENTRIES = NO_INTEGERS

# Wrong wherever places or indexes are counted from 0.
NO_PLACES = NO_INTEGERS + [-1, -2, -10 ** 30, -10 ** 5000]

NO_OPERATIONS = NO_KIND + [
    (), [], ["swap"], ("swap", 1), ("swap", None), ("swap", ()), ("put",), ("put", 0), ("put", 0, 1, 1), ("take",),
    ("take", 0, 0), ("change",), ("change", 0), ("change", 0, 1, 1), ("undo",), ("log",), ("preview",), ("swap ",),
    ("Swap",), ("SWAP",), ("", 0), (b"swap",), (None,), (0,), (True, 0), (("swap",),), (["swap"],),
    ("s", "w", "a", "p"),
    ["put", 0, 1], ["take", 0], ["change", 0, 1], ([], 0, 1), ({}, 0), ({1}, 0), (len, 0), nested(20)]

NO_TEXTS = [None, True, False, 0, 3, 12, -1, 10 ** 5000, b"1 2", b"", (), ("1",), [], ["1", "2"], (1, 2), {}, {1: 1},
            {"1"}, range(1, 3), object(), int, len, ValueError("1"), nested(20)]


class Untouched(int):
    """An entry of 1 that nobody may compare or add: a row is refused before it is reached."""

    def refuse(self, *_):
        raise AssertionError("an entry behind the one that decides was asked")

    __eq__ = __ne__ = __lt__ = __le__ = __gt__ = __ge__ = refuse
    __add__ = __radd__ = __sub__ = __rsub__ = __mul__ = __rmul__ = __index__ = refuse
    __hash__ = None


class UntouchedRun(tuple):
    """A pair that nobody may look into."""

    def refuse(self, *_):
        raise AssertionError("a pair behind the one that decides was asked")

    __eq__ = __ne__ = __len__ = __iter__ = __getitem__ = refuse
    __hash__ = None


def lines_run(call):
    """How many lines of the package a call runs: a measure of its work that is the same at each try."""
    count = 0

    def trace(frame, event, _):
        nonlocal count
        if "runswap" not in frame.f_globals["__name__"]:
            return None
        if event == "line":
            count += 1
        return trace

    before = sys.gettrace()
    sys.settrace(trace)
    try:
        call()
    finally:
        sys.settrace(before)
    return count
