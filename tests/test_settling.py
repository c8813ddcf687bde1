"""Points [2] (b) and (c), [8] and section 5: settled rows, and the way to them."""

import unittest
from math import isqrt

from runswap.rows import row_after, swapped
from runswap.settling import is_settled, is_still, meeting, rounds_needed, run_counts, settled_pair
from tests.plain import (great_rows, plain_round, plain_rows, plain_runs, plain_way, rows_up_to,
                         rows_with_sum, slow_row)


def greatest_need(total):
    """The bound of [2] (c)."""
    if total <= 2:
        return 0
    if total <= 8:
        return 1
    return isqrt(4 * total + 1) - 4


def plain_meeting(row, other):
    """The first of many rounds after which both rows are equal."""
    pairs = zip(plain_rows(row, 60), plain_rows(other, 60))
    return next((rounds for rounds, (one, two) in enumerate(pairs) if one == two), None)


class SettledTest(unittest.TestCase):
    def test_settled_means_different_neighbouring_lengths(self):
        for row in rows_up_to(13) + great_rows():
            lengths = [length for _, length in plain_runs(row)]
            expected = all(one != two for one, two in zip(lengths, lengths[1:]))
            self.assertIs(is_settled(row), expected)

    def test_settled_rows_are_those_that_come_again(self):
        for row in rows_up_to(10) + great_rows():
            later = plain_rows(row, 40)[1:]
            self.assertIs(is_settled(row), row in later)
            self.assertIs(is_settled(row), later[1] == row)

    def test_each_row_leads_to_settled_rows_that_alternate(self):
        for row in rows_up_to(11) + great_rows():
            rows = plain_rows(row, 206)[200:]
            self.assertIs(is_settled(rows[0]), True)
            self.assertIs(is_settled(rows[1]), True)
            self.assertEqual(rows, rows[:2] * 3)

    def test_still_rows(self):
        for row in rows_up_to(13) + great_rows():
            self.assertIs(is_still(row), plain_round(row) == row)
            self.assertIs(is_still(row), all(number == length for number, length in plain_runs(row)))

    def test_still_rows_are_settled(self):
        still = [row for row in rows_up_to(13) if is_still(row)]
        self.assertEqual(still[:4], [(1,), (2, 2), (1, 2, 2), (2, 2, 1)])
        for row in still:
            self.assertIs(is_settled(row), True)

    def test_some_settled_and_still_rows(self):
        for row in [(200,), (1,) * 200, (14,) * 14, (7,) * 7 + (8,) * 8]:
            self.assertIs(is_settled(row), True)
        self.assertEqual([is_still(row) for row in [(200,), (14,) * 14, (7,) * 7 + (8,) * 8, (1, 2, 2)]],
                         [False, True, True, True])
        self.assertEqual([is_settled(row) for row in [(100, 99), (1, 2) * 66, (5, 5, 4, 4)]], [False] * 3)


class NeedTest(unittest.TestCase):
    def test_rounds_needed(self):
        for row in rows_up_to(13) + great_rows():
            self.assertEqual(rounds_needed(row), len(plain_way(row)) - 1)

    def test_settled_pair(self):
        for row in rows_up_to(12) + great_rows():
            last = plain_way(row)[-1]
            pair = settled_pair(row)
            self.assertEqual(pair, (last, plain_round(last)))
            self.assertEqual([type(pair), type(pair[0]), type(pair[1])], [tuple] * 3)

    def test_settled_pair_agrees_with_rounds(self):
        for row in great_rows():
            need = rounds_needed(row)
            self.assertEqual(settled_pair(row), (row_after(row, rounds=need), row_after(row, rounds=need + 1)))
            self.assertEqual(swapped(settled_pair(row)[1]), settled_pair(row)[0])

    def test_run_counts(self):
        for row in rows_up_to(12) + great_rows():
            counts = run_counts(row)
            self.assertEqual(counts, [len(plain_runs(found)) for found in plain_way(row)])
            self.assertIs(type(counts), list)
            self.assertEqual(counts, sorted(set(counts), reverse=True))

    def test_some_rows_need_many_rounds(self):
        for root in range(4, 15):
            with self.subTest(root=root):
                self.assertEqual(rounds_needed(slow_row(root)), greatest_need(root * root))
        needs = {rounds_needed(row) for row in great_rows()}
        self.assertEqual(max(needs), 24)
        self.assertGreater(len(needs), 5)

    def test_returned_lists_are_new(self):
        row = (1, 2, 3, 3)
        counts = run_counts(row)
        counts.append(7)
        counts[0] = None
        self.assertIsNot(run_counts(row), run_counts(row))
        self.assertEqual(run_counts(row), [3, 2, 1])


class BoundsTest(unittest.TestCase):
    def test_a_row_needs_fewer_rounds_than_it_has_runs(self):
        for row in rows_up_to(13) + great_rows():
            self.assertLessEqual(rounds_needed(row), len(plain_runs(row)) - 1)

    def test_greatest_need_of_all_rows_with_a_sum(self):
        for total in range(1, 17):
            with self.subTest(total=total):
                needs = [rounds_needed(row) for row in rows_with_sum(total)]
                self.assertEqual(len(needs), 2 ** (total - 1))
                self.assertEqual(max(needs), greatest_need(total))

    def test_great_rows_keep_the_bound(self):
        for row in great_rows():
            self.assertLessEqual(rounds_needed(row), greatest_need(sum(row)))


class MeetingTest(unittest.TestCase):
    def test_all_pairs_of_small_rows(self):
        for total in range(1, 8):
            rows = rows_with_sum(total)
            for row in rows:
                for other in rows:
                    self.assertEqual(meeting(row, other), plain_meeting(row, other))

    def test_rows_with_different_sums_never_meet(self):
        for row in rows_up_to(5):
            for other in rows_up_to(5) + great_rows():
                if sum(row) != sum(other):
                    self.assertIsNone(meeting(row, other))
                    self.assertIsNone(meeting(other, row))

    def test_great_rows(self):
        rows = great_rows()
        for row in rows:
            for other in rows[:20] + [row, row[::-1]]:
                self.assertEqual(meeting(row, other), plain_meeting(row, other))

    def test_a_row_does_not_meet_the_row_one_round_later_unless_still(self):
        for row in rows_up_to(9):
            pair = settled_pair(row)
            expected = 0 if row == plain_round(row) else plain_meeting(row, plain_round(row))
            self.assertEqual(meeting(row, swapped(row)), expected)
            self.assertEqual(meeting(pair[0], pair[1]), 0 if pair[0] == pair[1] else None)

    def test_meetings_of_many_lengths_occur(self):
        rows = rows_with_sum(10)
        met = {meeting(row, other) for row in rows[::7] for other in rows[::5]}
        self.assertTrue({None, 0, 1, 2} <= met)

    def test_slow_rows_meet_late(self):
        for root in range(4, 15):
            need = greatest_need(root * root)
            last = settled_pair(slow_row(root))[0]
            self.assertEqual(last, (root,) * root)
            self.assertEqual(meeting(slow_row(root), last), need)
            self.assertEqual(meeting(last, slow_row(root)), need)
            self.assertEqual(meeting(slow_row(root), slow_row(root)[::-1]), need)

    def test_one_settled_and_one_not(self):
        self.assertEqual(meeting((3, 3, 3), (1, 2, 3, 3)), 2)
        self.assertEqual(meeting((1, 2, 3, 3), (3, 3, 3)), 2)
        self.assertEqual(meeting((1, 1, 1), (1, 2)), None)
        self.assertEqual(meeting((3,), (1, 2)), 1)


if __name__ == "__main__":
    unittest.main()
