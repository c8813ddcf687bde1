"""Points [4], [8] and section 9: settled and still rows with a sum, by numbers."""

import unittest

from runswap.cycles import (count_settled, count_still, nth_settled, nth_still, settled_number,
                            still_number)
from runswap.errors import InvalidNumber, NotSettled, NotStill
from runswap.settled_ways import SettledWays
from tests.plain import (great_rows, picked_numbers, plain_runs, plain_settled, plain_still, plain_way, rows_with_sum,
                         rows_up_to, settled_counts, still_counts)

GREAT_SUMS = [15, 16, 17, 31, 32, 33, 63, 64, 65, 100, 127, 128, 129, 150, 191, 192, 193, 198, 199, 200]


class SettledByNumbersTest(unittest.TestCase):
    def test_all_settled_rows_with_small_sums(self):
        for total in range(1, 15):
            rows = sorted(row for row in rows_with_sum(total) if plain_settled(row))
            self.assertEqual(count_settled(total), len(rows))
            self.assertEqual([nth_settled(total, number) for number in range(len(rows))], rows)
            self.assertEqual([settled_number(row) for row in rows], list(range(len(rows))))

    def test_counts_of_all_sums(self):
        counts, _, _ = settled_counts(200)
        for total in range(1, 201):
            self.assertEqual(count_settled(total), counts[total])

    def test_rows_that_are_not_settled(self):
        for row in rows_up_to(11) + great_rows():
            if not plain_settled(row):
                with self.assertRaises(NotSettled) as caught:
                    settled_number(row)
                self.assertIs(type(caught.exception), NotSettled)

    def test_numbers_and_rows_with_great_sums(self):
        for total in GREAT_SUMS:
            with self.subTest(total=total):
                numbers = picked_numbers(count_settled(total))
                rows = [nth_settled(total, number) for number in numbers]
                self.assertEqual([settled_number(row) for row in rows], numbers)
                self.assertEqual({sum(row) for row in rows}, {total})
                self.assertEqual([row for row in rows if not plain_settled(row)], [])
                for one, two in zip(rows, rows[1:]):
                    self.assertLess(one, two)

    def test_first_and_last_rows(self):
        for total in [1, 2, 5, 77, 200]:
            count = count_settled(total)
            self.assertEqual(nth_settled(total, 0), (1,) * total)
            self.assertEqual(nth_settled(total, count - 1), (total,))
            self.assertEqual([settled_number((1,) * total), settled_number((total,))], [0, count - 1])
            for number in [count, count + 1, 2 ** (total - 1), 2 ** 199]:
                with self.assertRaises(InvalidNumber):
                    nth_settled(total, number)

    def test_rows_that_others_lead_to(self):
        last_rows = sorted({plain_way(row)[-1] for row in great_rows() if sum(row) == 200})
        numbers = [settled_number(row) for row in last_rows]
        self.assertEqual([nth_settled(200, number) for number in numbers], last_rows)
        self.assertEqual(numbers, sorted(numbers))

    def test_kinds_of_what_is_returned(self):
        row = nth_settled(50, 10 ** 6)
        self.assertEqual([type(row), type(settled_number(row)), type(count_settled(50))], [tuple, int, int])
        self.assertEqual({type(entry) for entry in row}, {int})


class SettledWaysTest(unittest.TestCase):
    def setUp(self):
        # Each settled row read from its end is a settled row, so these count rows that begin so, too.
        self.counts, self.numbers, self.runs = settled_counts(200)

    def test_rows_that_begin_with_a_number(self):
        ways = SettledWays(200)
        for part in range(201):
            found = [ways.begun(number, part) for number in range(1, 201)]
            self.assertEqual(found, self.numbers[part][1:])

    def test_rows_behind_a_run(self):
        for total in [7, 60, 200]:
            ways = SettledWays(total)
            for number in range(1, total + 1):
                for length in range(1, total // number + 1):
                    found = [ways.behind(number, length, part) for part in range(total - number * length, -3, -1)]
                    expected = [self.runs[part + number * length][number, length]
                                for part in range(total - number * length, -1, -1)]
                    self.assertEqual(found, expected + [0, 0])

    def test_sums_in_any_order(self):
        ways = SettledWays(200)
        for part in [3, 150, 20, 199, 0, 64, 63, 16, 15, 17, 47, 48, 49]:
            for number, length in [(1, 1), (1, 2), (2, 1), (3, 1), (1, 3), (2, 2), (14, 1), (1, 14), (5, 7)]:
                if part + number * length <= 200:
                    self.assertEqual(ways.behind(number, length, part),
                                     self.runs[part + number * length][number, length])

    def test_rows_with_a_lower_entry(self):
        ways = SettledWays(60)
        for part in [0, 1, 5, 12, 30, 41]:
            for run in [(0, 201), (1, 1), (2, 3), (3, 2), (7, 1), (1, 7), (20, 1), (1, 19)]:
                number, length = run
                count = sum(self.after(run, entry, part) for entry in range(1, part + 1)) if part else 1
                self.assertEqual(ways.after(run, part), count)
                for entry in range(1, part + 1):
                    lower = sum(self.after(run, other, part) for other in range(1, entry))
                    self.assertEqual(ways.ways_below(entry, run, part), lower)

    def after(self, run, entry, part):
        """How many settled rows with this sum begin with the entry and can stand behind the run."""
        number, length = run
        if entry == number:
            return 0
        return self.numbers[part][entry] - self.runs[part].get((entry, length), 0)

    def test_long_runs_of_one_number(self):
        for total in [40, 81, 200]:
            for entry in [1, 2, 3]:
                for length in range(1, (total - 3) // entry + 1):
                    rest = total - entry * length
                    for row in [(entry,) * length + (rest,), (rest,) + (entry,) * length,
                                (rest - 2,) + (entry,) * length + (2,)]:
                        if plain_settled(row):
                            self.assertEqual(nth_settled(total, settled_number(row)), row)

    def test_great_entries(self):
        for total in [29, 30, 60, 121, 200]:
            for entry in range(10, total):
                rest = total - entry
                for row in [(entry, 1) + (2,) * (rest // 2) + (3,), (entry, entry, rest), (rest, rest, entry, 2, 2, 2)]:
                    if plain_settled(row) and sum(row) <= 200:
                        self.assertEqual(nth_settled(sum(row), settled_number(row)), row)


class StillByNumbersTest(unittest.TestCase):
    def test_all_still_rows_with_small_sums(self):
        for total in range(1, 17):
            rows = sorted(row for row in rows_with_sum(total) if plain_still(row))
            self.assertEqual(count_still(total), len(rows))
            self.assertEqual([nth_still(total, number) for number in range(len(rows))], rows)
            self.assertEqual([still_number(row) for row in rows], list(range(len(rows))))

    def test_counts_of_all_sums(self):
        counts = still_counts(200)
        self.assertEqual([count_still(total) for total in range(1, 201)], counts[1:])

    def test_rows_that_are_not_still(self):
        for row in rows_up_to(11) + great_rows():
            if not plain_still(row):
                with self.assertRaises(NotStill) as caught:
                    still_number(row)
                self.assertIs(type(caught.exception), NotStill)

    def test_sums_without_a_still_row(self):
        empty = [total for total in range(1, 201) if count_still(total) == 0]
        self.assertEqual(empty, [2, 3, 7, 8, 12])
        for total in empty:
            for number in [0, 1, 5]:
                with self.assertRaises(InvalidNumber):
                    nth_still(total, number)

    def test_numbers_and_rows_of_all_sums(self):
        for total in range(1, 201):
            count = count_still(total)
            numbers = picked_numbers(count)
            rows = [nth_still(total, number) for number in numbers]
            self.assertEqual([still_number(row) for row in rows], numbers)
            for row in rows:
                self.assertEqual(sum(row), total)
                self.assertEqual([number for number, _ in plain_runs(row)], [length for _, length in plain_runs(row)])
            for one, two in zip(rows, rows[1:]):
                self.assertLess(one, two)
            for number in [count, count + 1, 2 ** 199]:
                with self.assertRaises(InvalidNumber):
                    nth_still(total, number)

    def test_kinds_of_what_is_returned(self):
        row = nth_still(50, 3)
        self.assertEqual([type(row), type(still_number(row)), type(count_still(50))], [tuple, int, int])
        self.assertEqual({type(entry) for entry in row}, {int})


if __name__ == "__main__":
    unittest.main()
