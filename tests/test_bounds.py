"""Points [2] (c), [4], [7] and section 6: what a round joins, and how many rounds rows need."""

import unittest

from runswap.bounds import joined_runs, least_total, most_rounds, slowest_row
from runswap.settling import rounds_needed
from tests.plain import great_rows, plain_round, plain_runs, plain_way, rows_up_to, rows_with_sum

# The sums at which one more round is possible, worked out by hand: the squares and the products k * (k + 1).
FIRST_SUMS = [1, 3, 9, 12, 16, 20, 25, 30, 36, 42, 49, 56, 64, 72, 81, 90, 100, 110, 121, 132, 144, 156, 169, 182, 196]


def plain_joined(row):
    """The groups of runs that become one run, by how many entries each run becomes."""
    found = []
    place = 0
    for number, length in plain_runs(plain_round(row)):
        group = []
        entries = 0
        while entries < length:
            entries += plain_runs(row)[place][0]
            group.append(place)
            place += 1
        if len(group) > 1:
            found.append(group)
    return found


class JoinedRunsTest(unittest.TestCase):
    def test_all_small_rows(self):
        for row in rows_up_to(12):
            self.assertEqual(joined_runs(row), plain_joined(row))

    def test_great_rows(self):
        for row in great_rows():
            self.assertEqual(joined_runs(row), plain_joined(row))

    def test_several_groups(self):
        self.assertEqual(joined_runs((1, 2, 3, 3, 4, 4, 5)), [[0, 1], [2, 3]])
        self.assertEqual(joined_runs((5, 5, 5, 1, 2, 4, 4, 2, 1)), [[1, 2], [4, 5]])
        self.assertEqual(joined_runs((1, 2) * 3), [[0, 1, 2, 3, 4, 5]])
        self.assertEqual(joined_runs((7,)), [])

    def test_a_settled_row_has_none(self):
        for row in rows_up_to(11):
            self.assertEqual(joined_runs(row) == [], rounds_needed(row) == 0)

    def test_lists_are_new_also_the_inner_ones(self):
        row = (1, 2, 3, 3, 4, 4)
        found = joined_runs(row)
        again = joined_runs(row)
        self.assertEqual([type(found), type(found[0]), type(found[0][0])], [list, list, int])
        self.assertIsNot(found, again)
        for one, two in zip(found, again):
            self.assertIsNot(one, two)
        self.assertIsNot(found[0], found[1])
        found[0].append(9)
        found.append([7])
        self.assertEqual(again, [[0, 1], [2, 3]])
        self.assertEqual(joined_runs(row), [[0, 1], [2, 3]])
        self.assertIsNot(joined_runs((7,)), joined_runs((7,)))
        self.assertEqual(row, (1, 2, 3, 3, 4, 4))


class BoundsTest(unittest.TestCase):
    def test_most_rounds_of_all_rows_with_small_sums(self):
        for total in range(1, 17):
            with self.subTest(total=total):
                self.assertEqual(most_rounds(total), max(len(plain_way(row)) - 1 for row in rows_with_sum(total)))

    def test_most_rounds_of_all_sums(self):
        for total in range(1, 201):
            with self.subTest(total=total):
                self.assertEqual(most_rounds(total), sum(first <= total for first in FIRST_SUMS) - 1)

    def test_great_rows_keep_the_bound(self):
        for row in great_rows():
            self.assertLessEqual(len(plain_way(row)) - 1, most_rounds(sum(row)))

    def test_slowest_row_of_all_sums(self):
        for total in range(1, 201):
            with self.subTest(total=total):
                row = slowest_row(total)
                self.assertEqual(sum(row), total)
                self.assertEqual([type(row)] + [type(entry) for entry in row], [tuple] + [int] * len(row))
                self.assertGreaterEqual(min(row), 1)
                self.assertEqual(len(plain_way(row)) - 1, most_rounds(total))
                self.assertEqual(slowest_row(total), row)

    def test_least_total(self):
        self.assertEqual([least_total(rounds) for rounds in range(25)], FIRST_SUMS)

    def test_least_total_of_small_numbers_by_search(self):
        for rounds in range(5):
            total = 1
            while max(len(plain_way(row)) - 1 for row in rows_with_sum(total)) < rounds:
                total += 1
            self.assertEqual(least_total(rounds), total)

    def test_least_total_agrees_with_most_rounds(self):
        for rounds in range(25):
            total = least_total(rounds)
            self.assertEqual(most_rounds(total), rounds)
            self.assertEqual(len(plain_way(slowest_row(total))) - 1, rounds)
            if rounds > 0:
                self.assertEqual(most_rounds(total - 1), rounds - 1)

    def test_rounds_never_fall_as_sums_grow(self):
        found = [most_rounds(total) for total in range(1, 201)]
        self.assertEqual(found, sorted(found))
        self.assertEqual((found[0], found[-1]), (0, 24))


if __name__ == "__main__":
    unittest.main()
