"""Points [3], [4] and the errors that sections 4 and 5 list."""

import copy
import unittest

from runswap.errors import InvalidRounds, InvalidRow, InvalidRuns
from runswap.rows import row_after, row_of, rows_from, runs_of, swapped
from runswap.settling import is_settled, is_still, meeting, rounds_needed, run_counts, settled_pair
from tests.plain import NO_ROUNDS, NO_ROWS, NO_RUNS

OF_A_ROW = [runs_of, swapped, row_after, is_settled, is_still, rounds_needed, settled_pair, run_counts]
ROW = (1, 2, 3, 3)


class WrongValuesTest(unittest.TestCase):
    def check(self, error, call):
        """The call raises exactly this error, and with a message."""
        with self.assertRaises(error) as caught:
            call()
        self.assertIs(type(caught.exception), error)
        self.assertNotEqual(str(caught.exception), "")

    def test_wrong_rows(self):
        for function in OF_A_ROW:
            for place, value in enumerate(NO_ROWS):
                with self.subTest(function=function.__name__, place=place):
                    self.check(InvalidRow, lambda: function(value))

    def test_wrong_runs(self):
        for place, value in enumerate(NO_RUNS):
            with self.subTest(place=place):
                self.check(InvalidRuns, lambda: row_of(value))

    def test_wrong_rounds(self):
        for row in [ROW, (3, 3, 5), (1,), (1,) * 200]:
            for place, value in enumerate(NO_ROUNDS):
                with self.subTest(row=row, place=place):
                    self.check(InvalidRounds, lambda: row_after(row, rounds=value))

    def test_the_row_is_checked_before_the_rounds(self):
        for row in NO_ROWS:
            for rounds in NO_ROUNDS + [0, 1, 10 ** 30]:
                self.check(InvalidRow, lambda: row_after(row, rounds=rounds))

    def test_wrong_rows_of_a_meeting(self):
        for place, value in enumerate(NO_ROWS):
            with self.subTest(place=place):
                self.check(InvalidRow, lambda: meeting(value, ROW))
                self.check(InvalidRow, lambda: meeting(ROW, value))
                self.check(InvalidRow, lambda: meeting(value, value))
                self.check(InvalidRow, lambda: meeting(value, (1,)))
                self.check(InvalidRow, lambda: meeting((200,), value))
                self.check(InvalidRow, lambda: meeting(value, None))
                self.check(InvalidRow, lambda: meeting(None, value))

    def test_a_generator_raises_at_its_first_item(self):
        for place, value in enumerate(NO_ROWS):
            with self.subTest(place=place):
                rows = rows_from(value)
                self.check(InvalidRow, lambda: next(rows))

    def test_an_error_changes_nothing(self):
        for value in [[1, 2], [0], (1, 0)]:
            before = copy.deepcopy(value)
            for function in OF_A_ROW:
                self.check(InvalidRow, lambda: function(value))
            self.check(InvalidRow, lambda: meeting(ROW, value))
            self.assertEqual(value, before)
        runs = [(2, 1), (2, 3)]
        self.check(InvalidRuns, lambda: row_of(runs))
        self.assertEqual(runs, [(2, 1), (2, 3)])

    def test_values_at_the_limits_raise_nothing(self):
        for row in [(1,), (200,), (1,) * 200, (100, 100)]:
            for function in OF_A_ROW:
                function(row)
            meeting(row, row)
            next(rows_from(row))
            for rounds in [0, 1, 10 ** 30]:
                row_after(row, rounds=rounds)


if __name__ == "__main__":
    unittest.main()
