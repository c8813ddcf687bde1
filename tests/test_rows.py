"""Points [2] (a), [5], [6], [7] and section 4: rows, their runs, and rounds."""

import copy
import unittest

from runswap.rows import is_row, is_runs, row_after, row_of, rows_from, runs_of, swapped
from tests.plain import (NO_ROWS, NO_RUNS, great_rows, plain_round, plain_rows, plain_runs, rows_up_to,
                         rows_with_sum)

MANY = 10 ** 30


def first_rows(row, count):
    """The first items of `rows_from`, so many."""
    return [found for _, found in zip(range(count), rows_from(row))]


class RowKindTest(unittest.TestCase):
    def test_rows(self):
        for row in rows_up_to(10) + great_rows() + [(200,), (1,) * 200, (100, 100), (1, 199)]:
            with self.subTest(row=row):
                self.assertIs(is_row(row), True)

    def test_no_rows(self):
        for place, value in enumerate(NO_ROWS):
            with self.subTest(place=place):
                self.assertIs(is_row(value), False)

    def test_sums_at_the_limit(self):
        for first in range(1, 200):
            self.assertIs(is_row((first, 200 - first)), True)
            self.assertIs(is_row((first, 201 - first)), False)
            self.assertIs(is_row((1,) * first + (200 - first,)), True)
            self.assertIs(is_row((1,) * first + (201 - first,)), False)

    def test_any_small_tuple(self):
        for first in range(-2, 4):
            for second in range(-2, 4):
                self.assertIs(is_row((first, second)), first > 0 and second > 0)


class RunsKindTest(unittest.TestCase):
    def test_runs(self):
        edges = [[(200, 1)], [(1, 200)], [(100, 2)], [(10, 20)], [(1, 1), (2, 1), (1, 1)],
                 [(1, 100), (100, 1)], [(1, 1), (2, 1)] * 66 + [(1, 1)]]
        for runs in edges + [plain_runs(row) for row in rows_up_to(10) + great_rows()]:
            with self.subTest(runs=runs):
                self.assertIs(is_runs(runs), True)

    def test_no_runs(self):
        for place, value in enumerate(NO_RUNS):
            with self.subTest(place=place):
                self.assertIs(is_runs(value), False)

    def test_sums_at_the_limit(self):
        for number in range(2, 100):
            length, rest = divmod(200, number)
            full = [(number, length)]
            if rest == 1:
                full.append((1, 1))
            elif rest:
                full.append((1, rest))
            self.assertIs(is_runs(full), True)
            self.assertIs(is_runs(full + [(number + 1, 1)]), False)
            self.assertIs(is_runs([(201, 1)] + full), False)

    def test_neighbours_with_the_same_number(self):
        for runs in [plain_runs(row) for row in rows_up_to(9)]:
            for place, (number, length) in enumerate(runs):
                self.assertIs(is_runs(runs[:place] + [(number, 1)] + runs[place:]), False)

    def test_runs_and_rows_lead_to_one_another(self):
        for row in rows_up_to(12) + great_rows():
            runs = plain_runs(row)
            self.assertEqual(runs_of(row), runs)
            self.assertEqual(row_of(runs), row)
            self.assertEqual(row_of(runs_of(row)), row)
            self.assertEqual(runs_of(row_of(runs)), runs)

    def test_all_lists_of_small_runs(self):
        parts = [(number, length) for number in range(3) for length in range(3)]
        for runs in [[a, b] for a in parts for b in parts] + [[a, b, c] for a in parts for b in parts for c in parts]:
            expected = min(min(run) for run in runs) > 0 and all(a[0] != b[0] for a, b in zip(runs, runs[1:]))
            self.assertIs(is_runs(runs), expected)

    def test_kinds_of_what_is_returned(self):
        runs = runs_of((1, 2, 3, 3))
        self.assertIs(type(runs), list)
        for run in runs:
            self.assertIs(type(run), tuple)
        self.assertIs(type(row_of([(1, 2)])), tuple)


class RoundsTest(unittest.TestCase):
    def test_one_round_of_all_small_rows(self):
        for row in rows_up_to(13):
            self.assertEqual(swapped(row), plain_round(row))

    def test_one_round_of_great_rows(self):
        for row in great_rows():
            with self.subTest(row=row):
                self.assertTrue(190 <= sum(row) <= 200)
                self.assertEqual(swapped(row), plain_round(row))

    def test_neighbouring_runs_of_equal_length_become_one(self):
        self.assertEqual(swapped((5, 5, 3, 3)), (2,) * 8)
        self.assertEqual(swapped((1, 2, 1, 2)), (1,) * 6)
        self.assertEqual(runs_of(swapped((4, 4, 7, 7, 2))), [(2, 11), (1, 2)])

    def test_the_sum_stays_the_same(self):
        for row in rows_up_to(11) + great_rows():
            self.assertEqual(sum(swapped(row)), sum(row))
            self.assertEqual(sum(row_after(row, rounds=MANY)), sum(row))
            self.assertEqual({sum(found) for found in first_rows(row, 8)}, {sum(row)})

    def test_some_rounds_of_all_small_rows(self):
        for row in rows_up_to(10):
            rows = plain_rows(row, 12)
            self.assertEqual(row_after(row), rows[1])
            for rounds in range(12):
                self.assertEqual(row_after(row, rounds=rounds), rows[rounds])

    def test_some_rounds_of_great_rows(self):
        for row in great_rows():
            rows = plain_rows(row, 60)
            for rounds in list(range(30)) + [58, 59]:
                with self.subTest(row=row, rounds=rounds):
                    self.assertEqual(row_after(row, rounds=rounds), rows[rounds])

    def test_very_many_rounds(self):
        # A row of r runs needs at most r - 1 rounds, and a row has at most 200 entries.
        for row in rows_up_to(9) + great_rows():
            rows = plain_rows(row, 204)
            self.assertEqual(row_after(row, rounds=200), rows[200])
            self.assertEqual(row_after(row, rounds=MANY), rows[202])
            self.assertEqual(row_after(row, rounds=MANY - 1), rows[203])
            self.assertEqual(row_after(row, rounds=MANY - 2), rows[202])
            self.assertEqual(row_after(row, rounds=10 ** 29 + 1), rows[203])

    def test_rounds_one_after_the_other(self):
        for row in great_rows():
            self.assertEqual(row_after(row_after(row, rounds=3), rounds=4), row_after(row, rounds=7))

    def test_no_round(self):
        for row in rows_with_sum(8) + great_rows():
            found = row_after(row, rounds=0)
            self.assertEqual(found, row)
            self.assertIs(type(found), tuple)

    def test_hundreds_of_rows(self):
        for row in rows_with_sum(7) + great_rows():
            found = first_rows(row, 400)
            self.assertEqual(len(found), 400)
            # One by one: the difference of two long lists of rows takes long to show.
            for one, two in zip(found, plain_rows(row, 400)):
                self.assertEqual(one, two)

    def test_first_rows_of_all_small_rows(self):
        for row in rows_up_to(11):
            self.assertEqual(first_rows(row, 6), plain_rows(row, 6))

    def test_two_generators_do_not_disturb_one_another(self):
        one = rows_from((1, 2, 3, 3))
        two = rows_from((3, 3))
        found = [(next(one), next(two)) for _ in range(4)]
        self.assertEqual(found, list(zip(plain_rows((1, 2, 3, 3), 4), plain_rows((3, 3), 4))))

    def test_kinds_of_what_is_returned(self):
        for row in [(1, 2, 3, 3), (3, 3, 5), (1,)]:
            found = [swapped(row), row_after(row, rounds=MANY)] + first_rows(row, 4)
            self.assertEqual([type(value) for value in found], [tuple] * 6)
            self.assertEqual({type(entry) for value in found for entry in value}, {int})


class ArgumentsTest(unittest.TestCase):
    def test_returned_lists_are_new(self):
        row = (1, 2, 3, 3)
        runs = runs_of(row)
        runs.append((9, 9))
        runs[0] = None
        self.assertIsNot(runs_of(row), runs_of(row))
        self.assertEqual(runs_of(row), [(1, 1), (2, 1), (3, 2)])

    def test_arguments_are_not_changed(self):
        for row in rows_with_sum(6):
            runs = plain_runs(row)
            before = copy.deepcopy(runs)
            self.assertIs(is_runs(runs), True)
            self.assertEqual(row_of(runs), row)
            self.assertEqual(runs, before)

    def test_wrong_arguments_are_not_changed(self):
        for runs in [[(3, 1), (3, 1)], [[1, 1], [2, 1]], [], [(0, 1), (1, 1), (1, 1)]]:
            before = copy.deepcopy(runs)
            self.assertIs(is_runs(runs), False)
            self.assertEqual(runs, before)
        entries = [1, 2, 3, 3]
        self.assertIs(is_row(entries), False)
        self.assertEqual(entries, [1, 2, 3, 3])

    def test_equal_arguments_give_equal_results(self):
        for row in great_rows():
            self.assertEqual(row_after(row, rounds=5), row_after(tuple(list(row)), rounds=5))


if __name__ == "__main__":
    unittest.main()
