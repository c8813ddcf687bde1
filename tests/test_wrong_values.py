"""Points [3], [4] and the errors that sections 4 to 9 list."""

import copy
import unittest

from runswap.before import count_before, entry_range, has_before, nth_before, number_before
from runswap.bounds import joined_runs, least_total, most_rounds, slowest_row
from runswap.counting import count_by_runs, count_rows, nth_row, row_number
from runswap.cycles import (count_settled, count_still, nth_settled, nth_still, settled_number,
                            still_number)
from runswap.errors import (InvalidNumber, InvalidRounds, InvalidRow, InvalidRunCount, InvalidRuns, InvalidTotal,
                            NotSettled, NotStill)
from runswap.rows import row_after, row_of, rows_from, runs_of, swapped
from runswap.settling import is_settled, is_still, meeting, rounds_needed, run_counts, settled_pair
from tests.plain import NO_NEEDS, NO_NUMBERS, NO_ROUNDS, NO_ROWS, NO_RUN_COUNTS, NO_RUNS, NO_TOTALS

OF_A_ROW = [runs_of, swapped, row_after, is_settled, is_still, rounds_needed, settled_pair, run_counts,
            joined_runs, has_before, count_before, number_before, entry_range, row_number, settled_number,
            still_number]
OF_A_TOTAL = [most_rounds, slowest_row, count_rows, count_settled, count_still]
BY_TOTAL_AND_NUMBER = [nth_row, nth_settled, nth_still]
ROW = (1, 2, 3, 3)


class WrongValuesTest(unittest.TestCase):
    def check(self, error, call):
        """The call raises exactly this error, and with a message."""
        with self.assertRaises(error) as caught:
            call()
        self.assertIs(type(caught.exception), error)
        self.assertNotEqual(str(caught.exception), "")

    def test_wrong_rows(self):
        for function in OF_A_ROW:
            for place, value in enumerate(NO_ROWS):
                with self.subTest(function=function.__name__, place=place):
                    self.check(InvalidRow, lambda: function(value))

    def test_wrong_runs(self):
        for place, value in enumerate(NO_RUNS):
            with self.subTest(place=place):
                self.check(InvalidRuns, lambda: row_of(value))

    def test_wrong_rounds(self):
        for row in [ROW, (3, 3, 5), (1,), (1,) * 200]:
            for place, value in enumerate(NO_ROUNDS):
                with self.subTest(row=row, place=place):
                    self.check(InvalidRounds, lambda: row_after(row, rounds=value))

    def test_the_row_is_checked_before_the_rounds(self):
        for row in NO_ROWS:
            for rounds in NO_ROUNDS + [0, 1, 10 ** 30]:
                self.check(InvalidRow, lambda: row_after(row, rounds=rounds))

    def test_wrong_rows_of_a_meeting(self):
        for place, value in enumerate(NO_ROWS):
            with self.subTest(place=place):
                self.check(InvalidRow, lambda: meeting(value, ROW))
                self.check(InvalidRow, lambda: meeting(ROW, value))
                self.check(InvalidRow, lambda: meeting(value, value))
                self.check(InvalidRow, lambda: meeting(value, (1,)))
                self.check(InvalidRow, lambda: meeting((200,), value))
                self.check(InvalidRow, lambda: meeting(value, None))
                self.check(InvalidRow, lambda: meeting(None, value))

    def test_a_generator_raises_at_its_first_item(self):
        for place, value in enumerate(NO_ROWS):
            with self.subTest(place=place):
                rows = rows_from(value)
                self.check(InvalidRow, lambda: next(rows))

    def test_an_error_changes_nothing(self):
        for value in [[1, 2], [0], (1, 0)]:
            before = copy.deepcopy(value)
            for function in OF_A_ROW:
                self.check(InvalidRow, lambda: function(value))
            self.check(InvalidRow, lambda: meeting(ROW, value))
            self.assertEqual(value, before)
        runs = [(2, 1), (2, 3)]
        self.check(InvalidRuns, lambda: row_of(runs))
        self.assertEqual(runs, [(2, 1), (2, 3)])

    def test_values_at_the_limits_raise_nothing(self):
        for row in [(1,), (200,), (1,) * 200, (100, 100)]:
            for function in OF_A_ROW:
                if function != still_number:
                    function(row)
            meeting(row, row)
            next(rows_from(row))
            for rounds in [0, 1, 10 ** 30]:
                row_after(row, rounds=rounds)

    def test_wrong_totals(self):
        for function in OF_A_TOTAL:
            for place, value in enumerate(NO_TOTALS):
                with self.subTest(function=function.__name__, place=place):
                    self.check(InvalidTotal, lambda: function(value))

    def test_first_and_last_totals(self):
        for function in OF_A_TOTAL:
            function(1)
            function(200)
        self.assertEqual([count_rows(1), count_rows(200)], [1, 2 ** 199])
        self.assertEqual([slowest_row(1), most_rounds(200)], [(1,), 24])
        self.assertEqual([count_settled(1), count_still(1)], [1, 1])

    def test_wrong_numbers(self):
        for function in BY_TOTAL_AND_NUMBER:
            for total in [1, 2, 4, 13, 60]:
                for place, value in enumerate(NO_NUMBERS):
                    with self.subTest(function=function.__name__, total=total, place=place):
                        self.check(InvalidNumber, lambda: function(total, value))
        for function in BY_TOTAL_AND_NUMBER:
            for value in NO_NUMBERS:
                self.check(InvalidNumber, lambda: function(200, value))

    def test_first_and_last_numbers(self):
        for function, count in [(nth_row, count_rows), (nth_settled, count_settled), (nth_still, count_still)]:
            for total in [1, 4, 5, 13, 14, 60, 200]:
                with self.subTest(function=function.__name__, total=total):
                    self.assertEqual(sum(function(total, 0)), total)
                    self.assertEqual(sum(function(total, count(total) - 1)), total)
                    self.check(InvalidNumber, lambda: function(total, count(total)))
                    self.check(InvalidNumber, lambda: function(total, -1))

    def test_the_total_is_checked_before_the_number(self):
        for function in BY_TOTAL_AND_NUMBER:
            for total in NO_TOTALS:
                for number in NO_NUMBERS + [0, 1, 5]:
                    self.check(InvalidTotal, lambda: function(total, number))

    def test_wrong_numbers_of_rows_before(self):
        for row in [(1,), (1, 2), (2, 2, 2, 1, 1, 1, 1, 1), (1,) * 30, (1,) * 200]:
            for place, value in enumerate(NO_NUMBERS + [count_before(row), count_before(row) + 1]):
                with self.subTest(row=row, place=place):
                    self.check(InvalidNumber, lambda: nth_before(row, value))
        for row in [(1,), (2, 2, 2, 1, 1, 1, 1, 1), (1,) * 200]:
            nth_before(row, 0)
            nth_before(row, count_before(row) - 1)

    def test_the_row_is_checked_before_the_number(self):
        for row in NO_ROWS:
            for number in NO_NUMBERS + [0, 1]:
                self.check(InvalidRow, lambda: nth_before(row, number))

    def test_wrong_numbers_of_runs(self):
        for total in [1, 2, 13, 200]:
            for place, value in enumerate(NO_RUN_COUNTS):
                with self.subTest(total=total, place=place):
                    self.check(InvalidRunCount, lambda: count_by_runs(total, value))
            self.assertGreater(count_by_runs(total, 1), 0)
            self.assertEqual(count_by_runs(total, 200), 0)

    def test_the_total_is_checked_before_the_number_of_runs(self):
        for total in NO_TOTALS:
            for runs in NO_RUN_COUNTS + [1, 200]:
                self.check(InvalidTotal, lambda: count_by_runs(total, runs))

    def test_wrong_rounds_of_a_least_total(self):
        for place, value in enumerate(NO_NEEDS):
            with self.subTest(place=place):
                self.check(InvalidRounds, lambda: least_total(value))
        self.assertEqual([least_total(0), least_total(24)], [1, 196])

    def test_rows_that_are_not_settled_or_not_still(self):
        for row in [(1, 2), ROW, (1, 2) * 60, (100, 1), (7, 7, 8, 8)]:
            self.check(NotSettled, lambda: settled_number(row))
            self.check(NotStill, lambda: still_number(row))
        for row in [(2,), (1, 1), (3, 3, 5), (200,), (1,) * 200, (1, 1, 2)]:
            self.check(NotStill, lambda: still_number(row))
            settled_number(row)
        for row in [(1,), (2, 2), (1, 2, 2), (14,) * 14, (2, 2, 1) * 20 + (2, 2)]:
            self.assertEqual([type(settled_number(row)), type(still_number(row))], [int, int])


if __name__ == "__main__":
    unittest.main()
