"""Points [2] and [4] over the whole program: what several of its parts tell of a row agrees."""

import unittest

from runswap.before import count_before, entry_range, has_before, number_before
from runswap.bounds import joined_runs, most_rounds
from runswap.console import Console
from runswap.counting import count_rows, nth_row, row_number
from runswap.cycles import count_settled, nth_settled, settled_number
from runswap.live import LiveRow
from runswap.long import long_after, long_count, long_entry, long_find, long_needed
from runswap.rows import is_row, row_after, row_of, rows_from, runs_of, swapped
from runswap.settling import is_settled, meeting, rounds_needed, run_counts, settled_pair
from runswap.texts import read_row, read_runs, show_row, show_runs
from tests.plain import great_rows, plain_rows, rows_up_to, rows_with_sum

SHOWN = ["show", "runs", "needed", "pair", "before", "number"]


def console_with(row):
    console = Console()
    console.say("row " + show_row(row))
    return console


class AlikeTest(unittest.TestCase):
    def setUp(self):
        self.rows = rows_up_to(8) + great_rows()

    def test_sums(self):
        for row in self.rows:
            live = LiveRow(row)
            console = console_with(row)
            blocks = tuple(runs_of(row))
            for rounds in range(5):
                runs = long_after(blocks, rounds=rounds)
                told = [row_after(row, rounds=rounds), live.row, read_row(console.say("show")), row_of(list(runs)),
                        read_row(console.say("after 0"))]
                self.assertEqual({sum(found) for found in told}, {sum(row)})
                live.swap()
                console.say("swap")

    def test_rounds(self):
        for row in self.rows:
            live = LiveRow(row)
            console = console_with(row)
            blocks = tuple(runs_of(row))
            for rounds, expected in zip(range(30), rows_from(row)):
                self.assertEqual(row_after(row, rounds=rounds), expected)
                self.assertEqual(live.row, expected)
                self.assertEqual(read_row(console_with(row).say(f"after {rounds}")), expected)
                self.assertEqual(read_row(console.say("show")), expected)
                self.assertEqual(read_runs(console.say("runs")), live.runs)
                self.assertEqual(list(long_after(blocks, rounds=rounds)), runs_of(expected))
                self.assertEqual(live.swap(), swapped(expected))
                self.assertEqual(read_row(console.say("swap")), swapped(expected))
            self.assertEqual(LiveRow(row).preview(*[("swap",)] * 12), row_after(row, rounds=12))

    def test_numbers_of_rounds(self):
        for row in self.rows:
            need = rounds_needed(row)
            live = LiveRow(row)
            while not live.stands:
                live.swap()
            self.assertEqual(need, len(live.log()))
            self.assertEqual(need, len(run_counts(row)) - 1)
            self.assertEqual(need, long_needed(tuple(runs_of(row))))
            self.assertEqual(str(need), console_with(row).say("needed"))
            self.assertEqual(need == 0, is_settled(row))
            self.assertEqual(need == 0, joined_runs(row) == [])
            self.assertLessEqual(need, most_rounds(sum(row)))
            self.assertEqual(need, next(rounds for rounds, found in enumerate(rows_from(row)) if is_settled(found)))

    def test_pairs(self):
        for row in self.rows:
            first, second = settled_pair(row)
            need = rounds_needed(row)
            self.assertEqual((first, second), (row_after(row, rounds=need), row_after(row, rounds=need + 1)))
            self.assertEqual(console_with(row).say("pair"), show_row(first) + " / " + show_row(second))
            live = LiveRow(row)
            while not live.stands:
                live.swap()
            self.assertEqual((live.row, live.swap(), live.swap()), (first, second, first))
            self.assertEqual(nth_settled(sum(row), settled_number(first)), first)
            self.assertEqual(LiveRow.settled(sum(row), number=settled_number(second)).row, second)
            blocks = tuple(runs_of(row))
            self.assertEqual(long_after(blocks, rounds=need), tuple(runs_of(first)))
            self.assertEqual(long_after(blocks, rounds=need + 1), tuple(runs_of(second)))
            # A row that comes again meets itself two rounds later.
            self.assertEqual(meeting(first, row_after(first, rounds=2)), 0)

    def test_numbers_of_rows(self):
        for row in self.rows:
            console = console_with(row)
            self.assertEqual(console.say("number"), str(row_number(row)))
            self.assertEqual(console.say("before"), str(count_before(row)))
            self.assertEqual(nth_row(sum(row), row_number(row)), LiveRow(row).row)
            later = swapped(row)
            self.assertIs(has_before(later), True)
            self.assertLess(number_before(row), count_before(later))
            least, most = entry_range(later)
            self.assertTrue(least <= len(LiveRow(row)) <= most)

    def test_rows_before_are_all_rows(self):
        for total in range(1, 12):
            rows = rows_with_sum(total)
            self.assertEqual(sum(count_before(row) for row in rows), count_rows(total))
            self.assertEqual(sum(is_settled(row) for row in rows), count_settled(total))

    def test_long_rows_entry_by_entry(self):
        for row in great_rows()[::4]:
            blocks = tuple(runs_of(row))
            for rounds, expected in enumerate(plain_rows(row, 3)):
                found = tuple(long_entry(blocks, place, rounds=rounds) for place in range(len(expected)))
                self.assertEqual(found, expected)
                for number in set(expected):
                    self.assertEqual(long_count(blocks, number, rounds=rounds), expected.count(number))
                    self.assertEqual(long_find(blocks, number, 0, rounds=rounds), expected.index(number))

    def test_texts(self):
        for row in self.rows:
            console = console_with(row)
            self.assertEqual(console.say("show"), show_row(LiveRow(row).row))
            self.assertEqual(console.say("runs"), show_runs(LiveRow(row).runs))
            self.assertIs(is_row(read_row(console.say("show"))), True)
            self.assertEqual(row_of(read_runs(console.say("runs"))), row)


class EqualResultsTest(unittest.TestCase):
    def test_earlier_calls_do_not_matter(self):
        rows = rows_up_to(6) + great_rows()[:10]
        first = [[console_with(row).say(command) for command in SHOWN] for row in rows]
        for row in rows[::-1]:
            live = LiveRow(row)
            live.runs.clear()
            live.swap()
            runs_of(row).clear()
            joined_runs(row).clear()
            run_counts(row).clear()
        again = [[console_with(row).say(command) for command in SHOWN] for row in rows]
        self.assertEqual(first, again)

    def test_equal_arguments(self):
        for row in great_rows():
            other = tuple(list(row))
            blocks = tuple(runs_of(row))
            self.assertEqual(LiveRow(row), LiveRow(other))
            self.assertEqual(show_row(row), show_row(other))
            self.assertEqual(long_after(blocks, rounds=7), long_after(tuple(runs_of(other)), rounds=7))


if __name__ == "__main__":
    unittest.main()
