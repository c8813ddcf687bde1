"""Wrong values are refused as soon as that is clear, and nothing is worked out more often than needed."""

import unittest

from runswap.before import count_before, entry_range, has_before, nth_before, number_before
from runswap.bounds import joined_runs, most_rounds, slowest_row
from runswap.counting import count_by_runs, count_rows, nth_row, row_number
from runswap.cycles import (count_settled, count_still, nth_settled, nth_still, settled_number,
                            still_number)
from runswap.errors import InvalidNumber, InvalidRow, NotSettled
from runswap.rows import is_row, is_runs, row_after, rows_from, runs_of, swapped
from runswap.settling import is_settled, is_still, meeting, rounds_needed, run_counts, settled_pair
from tests.plain import Untouched, UntouchedRun, lines_run, plain_rows

OF_A_ROW = [runs_of, swapped, row_after, is_settled, is_still, rounds_needed, settled_pair, run_counts,
            joined_runs, has_before, count_before, number_before, entry_range, row_number, settled_number,
            still_number]
NO_ENTRIES = [None, 0, -1, -10 ** 30, True, False, "1", (1,), [1], 201, 10 ** 5000]


def decided_at(place, size, entry):
    """A value that is no row from this place on, and what stands behind is not to be asked."""
    return (1,) * place + (entry,) + (Untouched(1),) * (size - place - 1)


class RefusedAtOnceTest(unittest.TestCase):
    def test_entries_behind_a_wrong_one_are_not_asked(self):
        for entry in NO_ENTRIES:
            for place, size in [(0, 2), (0, 200), (1, 3), (100, 200), (198, 200)]:
                with self.subTest(place=place, size=size):
                    self.assertIs(is_row(decided_at(place, size, entry)), False)

    def test_entries_behind_a_sum_that_grows_too_great_are_not_asked(self):
        for size in range(2, 201):
            # The entries behind count 1 each, at least.
            self.assertIs(is_row(decided_at(0, size, 202 - size)), False)
            self.assertIs(is_row((201 - size,) + (1,) * (size - 1)), True)
        self.assertIs(is_row((2,) * 10 + decided_at(0, 180, 12)), False)
        self.assertIs(is_row((Untouched(1),) * 201), False)

    def test_functions_refuse_at_once(self):
        for entry in NO_ENTRIES:
            row = decided_at(0, 200, entry)
            for function in OF_A_ROW:
                with self.subTest(function=function.__name__), self.assertRaises(InvalidRow):
                    function(row)
            with self.assertRaises(InvalidRow):
                next(rows_from(row))
            with self.assertRaises(InvalidRow):
                meeting(row, (Untouched(1),))
            with self.assertRaises(InvalidRow):
                meeting((1,), row)

    def test_pairs_behind_a_wrong_one_are_not_asked(self):
        rest = [UntouchedRun((2, 1))] * 5
        for start in [[None], [()], [(1, 0)], [(0, 1)], [(1, True)], [(201, 1)], [(1, 1), (1, 1)],
                      [(100, 2), (1, 1)], [(3, 1), (2, 99)], [(10 ** 5000, 10 ** 5000)]]:
            self.assertIs(is_runs(start + rest), False)


class WorkTest(unittest.TestCase):
    def test_valid_values(self):
        ones = (1,) * 200
        self.assertLess(lines_run(lambda: is_row(ones)), 650)
        self.assertLess(lines_run(lambda: is_runs([(1, 1), (2, 1)] * 60)), 1200)
        self.assertLess(lines_run(lambda: runs_of(ones)), 1300)
        self.assertLess(lines_run(lambda: rounds_needed((1, 2) * 60)), 1600)
        self.assertLess(lines_run(lambda: row_after(ones, rounds=10 ** 30)), 1300)

    def test_wrong_values(self):
        self.assertLess(lines_run(lambda: is_row((None,) + (1,) * 199)), 20)
        self.assertLess(lines_run(lambda: is_runs([(1, 1)] * 200)), 40)

    def test_rows_that_alternate_are_not_worked_out_again(self):
        for row in [(1, 2), (1, 2, 3, 3), (3, 3), (1,) * 200, (5,) * 5]:
            found = []

            def many():
                for item in rows_from(row):
                    found.append(item)
                    if len(found) == 20001:
                        return

            with self.subTest(row=row):
                self.assertLess(lines_run(many), 2 * 20001 + 1500)
                self.assertEqual(found[:8], plain_rows(row, 8))
                self.assertEqual(found[-2:], plain_rows(row, 8)[5:7])

    def check(self, most, calls):
        for place, call in enumerate(calls):
            with self.subTest(place=place):
                self.assertLess(lines_run(call), most)

    def test_calls_with_the_greatest_sum(self):
        ones = (1,) * 200
        row = nth_row(200, 2 ** 199 // 3)
        settled = nth_settled(200, 2 ** 150)
        self.check(2500, [lambda: joined_runs((1, 2) * 66), lambda: most_rounds(200), lambda: slowest_row(200),
                          lambda: count_rows(200), lambda: nth_row(200, 2 ** 198), lambda: row_number(ones),
                          lambda: has_before(ones), lambda: number_before(row), lambda: count_before(ones),
                          lambda: entry_range(ones), lambda: nth_still(200, 10 ** 15),
                          lambda: still_number((14,) * 14 + (2, 2))])
        self.check(12000, [lambda: nth_before(ones, 10 ** 20), lambda: nth_before(ones, count_before(ones) - 1),
                           lambda: nth_before((1,) * 100 + (2,) * 50, 10 ** 15), lambda: number_before((1, 2) * 66),
                           lambda: count_before((2,) * 10 + (1,) * 160 + (2,) * 10)])
        self.check(12000, [lambda: nth_settled(200, 2 ** 150), lambda: nth_settled(200, count_settled(200) - 1),
                           lambda: nth_settled(200, 0), lambda: settled_number(settled),
                           lambda: settled_number((2,) * 100), lambda: settled_number(ones)])

    def test_numbers_that_stand_in_tables(self):
        self.check(20, [lambda: count_settled(200), lambda: count_still(200)])
        self.check(200, [lambda: count_by_runs(200, 66), lambda: count_by_runs(200, 133),
                         lambda: count_by_runs(80, 40)])

    def test_calls_with_small_sums(self):
        self.check(500, [lambda: count_settled(13), lambda: nth_settled(13, 200), lambda: settled_number((13,)),
                         lambda: settled_number((2, 1, 1, 9)), lambda: count_by_runs(13, 5),
                         lambda: nth_before((1,) * 13, 100), lambda: number_before((1, 2, 1, 2, 3, 4)),
                         lambda: entry_range((1,) * 13), lambda: nth_still(13, 1), lambda: row_number((1,) * 13)])

    def test_wrong_numbers_are_refused_before_settled_rows_are_counted(self):
        def wrong():
            for number in [None, -1, 2 ** 199]:
                with self.assertRaises(InvalidNumber):
                    nth_settled(200, number)
            with self.assertRaises(NotSettled):
                settled_number((1, 2) * 60)

        self.assertLess(lines_run(wrong), 1500)


if __name__ == "__main__":
    unittest.main()
