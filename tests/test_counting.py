"""Points [2] (e), [4], [5], [6] and section 8: all rows with a sum, by numbers."""

import unittest

from runswap.counting import count_by_runs, count_rows, nth_row, row_number
from runswap.errors import InvalidNumber
from runswap.rows import is_row
from tests.plain import great_rows, picked_numbers, plain_runs, rows_with_sum, run_counts_of_sums


def counts_by_runs(total):
    """The numbers of rows with this sum by runs, counted run by run."""
    # found[part][last]: the numbers by runs for the rows with the sum `part` that end with a run of this number.
    found = [{0: [1]}]
    for part in range(1, total + 1):
        ends = {}
        for last in range(1, part + 1):
            counts = [0] * (part + 1)
            for length in range(1, part // last + 1):
                for before, ways in found[part - last * length].items():
                    if before != last:
                        for runs, count in enumerate(ways):
                            counts[runs + 1] += count
            ends[last] = counts
        found.append(ends)
    return [sum(column) for column in zip(*found[total].values())]


def neighbours_alike(total):
    """How many pairs of equal neighbouring entries all rows with this sum have together."""
    rows = [1] + [2 ** (part - 1) for part in range(1, total + 1)]
    return sum(rows[first] * rows[total - 2 * number - first]
               for number in range(1, total // 2 + 1)
               for first in range(total - 2 * number + 1))


class RowsByNumbersTest(unittest.TestCase):
    def test_all_rows_with_small_sums(self):
        for total in range(1, 15):
            rows = sorted(rows_with_sum(total))
            self.assertEqual(count_rows(total), len(rows))
            self.assertEqual([nth_row(total, number) for number in range(len(rows))], rows)
            self.assertEqual([row_number(row) for row in rows], list(range(len(rows))))

    def test_counts_of_all_sums(self):
        for total in range(1, 201):
            self.assertEqual(count_rows(total), 2 ** (total - 1))

    def test_numbers_and_rows_of_all_sums(self):
        for total in range(1, 201):
            numbers = picked_numbers(2 ** (total - 1))
            rows = [nth_row(total, number) for number in numbers]
            self.assertEqual([row_number(row) for row in rows], numbers)
            self.assertEqual({sum(row) for row in rows}, {total})
            for one, two in zip(rows, rows[1:]):
                self.assertLess(one, two)

    def test_first_and_last_rows(self):
        for total in range(1, 201):
            self.assertEqual(nth_row(total, 0), (1,) * total)
            self.assertEqual(nth_row(total, 2 ** (total - 1) - 1), (total,))
            with self.assertRaises(InvalidNumber):
                nth_row(total, 2 ** (total - 1))

    def test_great_rows(self):
        rows = sorted(set(great_rows()), key=lambda row: (sum(row), row))
        for row in rows:
            self.assertEqual(nth_row(sum(row), row_number(row)), row)
        for one, two in zip(rows, rows[1:]):
            if sum(one) == sum(two):
                self.assertLess(row_number(one), row_number(two))

    def test_kinds_of_what_is_returned(self):
        row = nth_row(200, 10 ** 50)
        self.assertIs(is_row(row), True)
        self.assertEqual([type(row), type(row_number(row)), type(count_rows(3))], [tuple, int, int])
        self.assertEqual({type(entry) for entry in row}, {int})


class CountByRunsTest(unittest.TestCase):
    def test_all_rows_with_small_sums(self):
        for total in range(1, 15):
            runs = [len(plain_runs(row)) for row in rows_with_sum(total)]
            self.assertEqual([count_by_runs(total, count) for count in range(1, 201)],
                             [runs.count(count) for count in range(1, 201)])

    def test_other_sums_counted_run_by_run(self):
        for total in [15, 16, 17, 24, 25, 26, 40]:
            counts = counts_by_runs(total) + [0] * 200
            self.assertEqual([count_by_runs(total, runs) for runs in range(1, 201)], counts[1:201])

    def test_all_sums_counted_entry_by_entry(self):
        for total, counts in enumerate(run_counts_of_sums(200)):
            if total > 0:
                counts = counts + [0] * 201
                self.assertEqual([count_by_runs(total, runs) for runs in range(1, 201)], counts[1:201])

    def test_counts_of_great_sums_fit_together(self):
        for total in [99, 100, 143, 144, 199, 200]:
            counts = [count_by_runs(total, runs) for runs in range(1, 201)]
            self.assertEqual(sum(counts), 2 ** (total - 1))
            # All rows with a sum have (total + 1) * 2 ** (total - 2) entries together.
            runs = (total + 1) * 2 ** (total - 2) - neighbours_alike(total)
            self.assertEqual(sum(place * count for place, count in enumerate(counts, 1)), runs)

    def test_few_runs(self):
        for total in range(1, 201):
            divisors = [number for number in range(1, total + 1) if total % number == 0]
            self.assertEqual(count_by_runs(total, 1), len(divisors))
        for total in range(1, 60):
            pairs = sum(1 for number in range(1, total) for rest in range(1, total)
                        for part in range(number, total, number)
                        if rest != number and (total - part) % rest == 0)
            self.assertEqual(count_by_runs(total, 2), pairs)

    def test_most_runs(self):
        # With the most runs 1 and 2 alternate.
        self.assertEqual([count_by_runs(200, runs) for runs in [134, 135, 199, 200]], [0] * 4)
        self.assertGreater(count_by_runs(200, 133), 0)
        for pairs in range(1, 67):
            self.assertEqual(count_by_runs(3 * pairs, 2 * pairs), 2)
            self.assertEqual(count_by_runs(3 * pairs, 2 * pairs + 1), 0)
            self.assertEqual(count_by_runs(3 * pairs + 1, 2 * pairs + 1), 1)
            self.assertEqual(count_by_runs(3 * pairs + 1, 2 * pairs + 2), 0)
        self.assertEqual([count_by_runs(total, total) for total in range(1, 6)], [1, 0, 0, 0, 0])

    def test_numbers_of_runs_without_a_row(self):
        self.assertEqual([count_by_runs(1, runs) for runs in [1, 2, 3, 200]], [1, 0, 0, 0])
        self.assertEqual([count_by_runs(2, runs) for runs in [1, 2, 200]], [2, 0, 0])
        self.assertEqual([count_by_runs(5, runs) for runs in [3, 4, 5, 6]], [4, 0, 0, 0])


if __name__ == "__main__":
    unittest.main()
