"""Points [2] (d), [10] and section 7: the rows before a row."""

import random
import unittest

from runswap.before import count_before, entry_range, has_before, nth_before, number_before
from runswap.errors import InvalidNumber
from runswap.rows import swapped
from tests.plain import great_rows, picked_numbers, plain_round, plain_runs, rows_before, rows_up_to

VERY_LONG_RUNS = [(2,) * 10 + (1,) * 160 + (2,) * 10, (2,) + (1,) * 190 + (2,) * 3, (1,) * 190 + (2,) * 5,
                  (5,) + (1,) * 195, (1,) * 150 + (2,) + (1,) * 3 + (2,) * 20,
                  (2,) * 12 + (1,) * 20 + (2,) * 13 + (1,) * 60 + (7,) * 8]
LARGE_RUNS = [(1,) * 200, (2,) * 100, (1,) * 100 + (2,) * 50, (1,) * 7 + (2,) * 90 + (1,) * 13, (3,) * 40 + (1,) * 80,
              (14,) * 14, (1, 1, 1, 2, 2, 2) * 22, (5,) * 4 + (4,) * 45]


def plain_range(rows):
    lengths = [len(row) for row in rows]
    return (min(lengths), max(lengths)) if rows else None


def ways_to_sum(total):
    """How many ways there are to write a sum as numbers of which no neighbours are equal, for each last number."""
    ways = [{0: 1}]
    for part in range(1, total + 1):
        ways.append({last: sum(count for before, count in ways[part - last].items() if before != last)
                     for last in range(1, part + 1)})
    return sum(ways[total].values())


def plain_sums(row):
    """The number of rows before and their least and greatest number of entries, number by number."""
    # For each last number: how many ways, and the fewest and the most entries.
    ends = {0: (1, 0, 0)}
    for number, length in plain_runs(row):
        groups = [ends] + [{} for _ in range(length)]
        for left in range(1, length + 1):
            for new in range(1, left + 1):
                found = [way for last, way in groups[left - new].items() if last != new]
                if found:
                    groups[left][new] = (sum(way[0] for way in found), min(way[1] for way in found) + number,
                                         max(way[2] for way in found) + number)
        ends = groups[length]
    if not ends:
        return (0, None)
    return (sum(way[0] for way in ends.values()),
            (min(way[1] for way in ends.values()), max(way[2] for way in ends.values())))


def rows_with_long_runs():
    """Rows with sums up to 200 whose runs have lengths up to 30, many of them with the same length as the next."""
    chance = random.Random(5)
    rows = []
    while len(rows) < 150:
        row = ()
        length = 3
        while True:
            length = chance.choice([length, length, length + 1, length - 1, chance.randint(1, 30)]) or 1
            number = chance.choice([1, 2, 3, chance.randint(1, 9)])
            if sum(row) + number * length > 200 or chance.random() < 0.1:
                break
            if row[-1:] != (number,):
                row = row + (number,) * length
        if row:
            rows.append(row)
    return rows


class BeforeTest(unittest.TestCase):
    def test_against_a_search_through_all_rows(self):
        for total in range(1, 14):
            for row, before in rows_before(total).items():
                self.assertIs(has_before(row), bool(before))
                self.assertEqual(count_before(row), len(before))
                self.assertEqual(entry_range(row), plain_range(before))
                self.assertEqual([nth_before(row, number) for number in range(len(before))], before)

    def test_numbers_against_a_search_through_all_rows(self):
        for total in range(1, 15):
            for before in rows_before(total).values():
                self.assertEqual([number_before(row) for row in before], list(range(len(before))))

    def test_numbers_that_no_row_before_has(self):
        for total in range(1, 11):
            for row, before in rows_before(total).items():
                for number in [len(before), len(before) + 1, 2 ** 199]:
                    with self.assertRaises(InvalidNumber):
                        nth_before(row, number)

    def test_which_rows_have_rows_before(self):
        for row in rows_up_to(13) + great_rows():
            lengths = [length for _, length in plain_runs(row)]
            excluded = [(1, 1), (2, 2)]
            expected = all(pair not in excluded for pair in zip(lengths, lengths[1:]))
            self.assertIs(has_before(row), expected)
            self.assertEqual(count_before(row) > 0, expected)
            self.assertEqual(entry_range(row) is not None, expected)

    def test_rows_without_a_row_before(self):
        for row in [(1, 2), (2, 1), (1, 1, 2, 2), (5, 5, 1, 1, 9), (1, 2) * 66, (100, 99, 1), (1, 1, 1, 2, 3)]:
            with self.subTest(row=row):
                self.assertIs(has_before(row), False)
                self.assertEqual(count_before(row), 0)
                self.assertIsNone(entry_range(row))
                with self.assertRaises(InvalidNumber):
                    nth_before(row, 0)

    def test_rows_with_one_row_before(self):
        self.assertEqual([count_before(row) for row in [(1,), (7,), (7, 7), (1, 1, 2), (200,)]], [1] * 5)
        self.assertEqual(nth_before((1, 1, 2), 0), (2, 1, 1))
        self.assertEqual(entry_range((7, 7)), (7, 7))
        self.assertEqual(nth_before((200,), 0), (1,) * 200)

    def test_the_round_of_a_row_has_it_as_a_row_before(self):
        for row in rows_up_to(11) + great_rows():
            later = plain_round(row)
            number = number_before(row)
            self.assertTrue(0 <= number < count_before(later))
            self.assertEqual(nth_before(later, number), row)
            least, most = entry_range(later)
            self.assertTrue(least <= len(row) <= most)

    def test_numbers_and_rows_with_great_sums(self):
        for row in LARGE_RUNS + VERY_LONG_RUNS + [plain_round(row) for row in great_rows()]:
            count = count_before(row)
            found = [nth_before(row, number) for number in picked_numbers(count)]
            self.assertEqual([number_before(before) for before in found], picked_numbers(count))
            self.assertEqual(found, sorted(found))
            self.assertEqual([plain_round(before) for before in found], [row] * len(found))
            self.assertEqual([swapped(before) for before in found], [row] * len(found))
            with self.assertRaises(InvalidNumber):
                nth_before(row, count)

    def test_counts_of_rows_with_great_sums(self):
        for total in [1, 2, 3, 20, 50, 199, 200]:
            self.assertEqual(count_before((1,) * total), ways_to_sum(total))
        for number, length in [(2, 100), (3, 66), (8, 25), (14, 14)]:
            self.assertEqual(count_before((number,) * length), ways_to_sum(length))

    def test_entry_ranges_of_one_long_run(self):
        # The fewest numbers are the sum alone; the most are 1 and 2 in turn.
        for total in range(1, 201):
            most = total // 3 * 2 + {0: 0, 1: 1, 2: 1}[total % 3]
            self.assertEqual(entry_range((1,) * total), (1, most))
            if 2 * total <= 200:
                self.assertEqual(entry_range((2,) * total), (2, 2 * most))

    def test_rows_with_long_runs(self):
        for row in rows_with_long_runs():
            with self.subTest(row=row):
                self.assertEqual((count_before(row), entry_range(row)), plain_sums(row))

    def test_rows_with_a_very_long_run(self):
        for row in LARGE_RUNS + VERY_LONG_RUNS:
            with self.subTest(row=row):
                self.assertEqual((count_before(row), entry_range(row)), plain_sums(row))

    def test_entry_ranges_are_reached(self):
        for row in [(1,) * 12 + (2,) * 4, (2,) * 9 + (3,) * 2, (1,) * 10 + (2,) * 3 + (4,)]:
            lengths = {len(nth_before(row, number)) for number in range(count_before(row))}
            self.assertEqual(entry_range(row), (min(lengths), max(lengths)))

    def test_kinds_of_what_is_returned(self):
        row = (2, 2, 2, 1, 1, 1, 1, 1)
        self.assertEqual([type(found) for found in [has_before(row), count_before(row), nth_before(row, 3),
                                                    number_before(row), entry_range(row)]],
                         [bool, int, tuple, int, tuple])
        self.assertEqual({type(entry) for entry in nth_before(row, 3) + entry_range(row)}, {int})


if __name__ == "__main__":
    unittest.main()
