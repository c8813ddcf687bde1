"""The examples of the document, as written, and the table of point [9]."""

import doctest
import unittest

from runswap.rows import row_after, rows_from, runs_of

ROWS = [
    """
    >>> from runswap.rows import is_row, is_runs
    >>> [is_row((1, 2, 3, 3)), is_row((0, 1)), is_row((201,)), is_runs([(1, 1), (3, 2)]), is_runs([(3, 1), (3, 1)])]
    [True, False, False, True, False]
    """,
    """
    >>> from runswap.rows import row_of, runs_of
    >>> row = (1, 2, 3, 3)
    >>> [runs_of(row), row_of([(2, 3), (1, 5)])]
    [[(1, 1), (2, 1), (3, 2)], (2, 2, 2, 1, 1, 1, 1, 1)]
    """,
    """
    >>> from runswap.rows import swapped
    >>> row = (1, 2, 3, 3)
    >>> [swapped(row), swapped((3, 3, 5))]
    [(1, 1, 1, 2, 2, 2), (2, 2, 2, 1, 1, 1, 1, 1)]
    """,
    """
    >>> from runswap.rows import row_after
    >>> row = (1, 2, 3, 3)
    >>> [row_after(row), row_after(row, rounds=10 ** 30), row_after((3, 3, 5), rounds=10 ** 30)]
    [(1, 1, 1, 2, 2, 2), (3, 3, 3), (3, 3, 5)]
    """,
    """
    >>> from runswap.rows import rows_from
    >>> [row for turn, row in zip(range(4), rows_from((3, 3)))]
    [(3, 3), (2, 2, 2), (3, 3), (2, 2, 2)]
    """,
]

SETTLING = [
    """
    >>> from runswap.settling import is_settled, is_still
    >>> row = (1, 2, 3, 3)
    >>> [is_settled(row), is_settled((3, 3, 5)), is_still((3, 3, 5)), is_still((3, 3, 3))]
    [False, True, False, True]
    """,
    """
    >>> from runswap.settling import rounds_needed
    >>> row = (1, 2, 3, 3)
    >>> [rounds_needed(row), rounds_needed((1, 2)), rounds_needed((3, 3, 5))]
    [2, 1, 0]
    """,
    """
    >>> from runswap.settling import settled_pair
    >>> row = (1, 2, 3, 3)
    >>> [settled_pair(row), settled_pair((1, 2))]
    [((3, 3, 3), (3, 3, 3)), ((1, 1, 1), (3,))]
    """,
    """
    >>> from runswap.settling import run_counts
    >>> row = (1, 2, 3, 3)
    >>> [run_counts(row), run_counts((3, 3, 5))]
    [[3, 2, 1], [2]]
    """,
    """
    >>> from runswap.settling import meeting
    >>> [meeting((1, 2), (2, 1)), meeting((1, 2), (1, 2)), meeting((3,), (1, 1, 1)), meeting((1, 2), (1, 3))]
    [1, 0, None, None]
    """,
]

BOUNDS = [
    """
    >>> from runswap.bounds import joined_runs
    >>> row = (1, 2, 3, 3)
    >>> [joined_runs(row), joined_runs((2, 1, 2)), joined_runs((3, 3, 5))]
    [[[0, 1]], [[0, 1, 2]], []]
    """,
    """
    >>> from runswap.bounds import most_rounds
    >>> [most_rounds(total) for total in [1, 2, 3, 8, 9, 11, 12, 200]]
    [0, 0, 1, 1, 2, 2, 3, 24]
    """,
    """
    >>> from runswap.bounds import slowest_row
    >>> from runswap.settling import rounds_needed
    >>> [rounds_needed(slowest_row(total)) for total in [1, 3, 9, 12, 17]]
    [0, 1, 2, 3, 4]
    """,
    """
    >>> from runswap.bounds import least_total
    >>> [least_total(rounds) for rounds in [0, 1, 2, 3, 4, 5, 24]]
    [1, 3, 9, 12, 16, 20, 196]
    """,
]

BEFORE = [
    """
    >>> from runswap.before import count_before, has_before
    >>> rows = [(1, 2), (1, 1, 1), (2, 2, 2, 1, 1, 1, 1, 1)]
    >>> [[has_before(row) for row in rows], [count_before(row) for row in rows]]
    [[False, True, True], [0, 3, 16]]
    """,
    """
    >>> from runswap.before import nth_before, number_before
    >>> [nth_before((1, 1, 1), number) for number in range(3)]
    [(1, 2), (2, 1), (3,)]
    """,
    """
    >>> from runswap.before import number_before
    >>> [number_before((2, 1)), number_before((3, 3, 5))]
    [1, 15]
    """,
    """
    >>> from runswap.before import entry_range
    >>> [entry_range((1, 1, 1)), entry_range((2, 2, 2, 1, 1, 1, 1, 1)), entry_range((1, 2))]
    [(1, 2), (3, 7), None]
    """,
]

COUNTING = [
    """
    >>> from runswap.counting import count_rows
    >>> [count_rows(total) for total in [1, 2, 3, 9]]
    [1, 2, 4, 256]
    """,
    """
    >>> from runswap.counting import nth_row, row_number
    >>> [nth_row(3, number) for number in range(4)]
    [(1, 1, 1), (1, 2), (2, 1), (3,)]
    """,
    """
    >>> from runswap.counting import row_number
    >>> row = (1, 2, 3, 3)
    >>> row_number(row)
    91
    """,
    """
    >>> from runswap.counting import count_by_runs
    >>> [count_by_runs(4, runs) for runs in [1, 2, 3, 4]]
    [3, 4, 1, 0]
    """,
]

CYCLES = [
    """
    >>> from runswap.cycles import count_settled, count_still
    >>> [[count_settled(total) for total in range(1, 6)], [count_still(total) for total in range(1, 6)], count_still(9)]
    [[1, 2, 2, 5, 8], [1, 0, 0, 1, 2], 2]
    """,
    """
    >>> from runswap.cycles import nth_settled, settled_number
    >>> [nth_settled(4, number) for number in range(5)]
    [(1, 1, 1, 1), (1, 1, 2), (2, 1, 1), (2, 2), (4,)]
    """,
    """
    >>> from runswap.cycles import settled_number
    >>> settled_number((2, 1, 1))
    2
    """,
    """
    >>> from runswap.cycles import nth_still, still_number
    >>> [nth_still(5, 0), nth_still(5, 1), still_number((2, 2, 1, 2, 2))]
    [(1, 2, 2), (2, 2, 1), 0]
    """,
]

LONG = [
    """
    >>> from runswap.long import is_blocks
    >>> [is_blocks(((7, 10 ** 28), (7, 5))), is_blocks(((7, 0),)), is_blocks(())]
    [True, False, False]
    """,
    """
    >>> from runswap.long import long_after
    >>> blocks = ((7, 4), (3, 4), (2, 5))
    >>> [long_after(blocks, rounds=rounds) for rounds in [0, 1, 2, 10 ** 30]]
    [((7, 4), (3, 4), (2, 5)), ((4, 10), (5, 2)), ((10, 4), (2, 5)), ((10, 4), (2, 5))]
    """,
    """
    >>> from runswap.long import long_needed
    >>> [long_needed(((7, 4), (3, 4), (2, 5))), long_needed(((7, 10 ** 28),)), long_needed(((1, 1), (2, 1), (3, 2)))]
    [1, 0, 2]
    """,
    """
    >>> from runswap.long import long_entry
    >>> blocks = ((7, 10 ** 28), (3, 5))
    >>> [long_entry(blocks, 7), long_entry(blocks, 6), long_entry(blocks, 10 ** 28 + 4, rounds=2)]
    [5, 10000000000000000000000000000, 3]
    """,
    """
    >>> from runswap.long import long_count
    >>> blocks = ((7, 4), (3, 4), (7, 5))
    >>> [long_count(blocks, 7, rounds=0), long_count(blocks, 4), long_count(blocks, 8)]
    [9, 10, 0]
    """,
    """
    >>> from runswap.long import long_find
    >>> blocks = ((7, 4), (3, 4), (7, 5))
    >>> [long_find(blocks, 7, 4, rounds=0), long_find(blocks, 5, 0), long_find(blocks, 4, 10)]
    [8, 10, None]
    """,
]

LIVE = [
    """
    >>> from runswap.live import LiveRow
    >>> live = LiveRow((1, 2, 3, 3))
    >>> [live.row, live.runs, live.stands, len(live), LiveRow.LIMIT]
    [(1, 2, 3, 3), [(1, 1), (2, 1), (3, 2)], False, 4, 200]
    """,
    """
    >>> from runswap.live import LiveRow
    >>> LiveRow.of(3, 3, 5).stands
    True
    """,
    """
    >>> from runswap.live import LiveRow
    >>> LiveRow.settled(4, number=2).row
    (2, 1, 1)
    """,
    """
    >>> from runswap.live import LiveRow
    >>> live = LiveRow.of(1, 2, 3, 3)
    >>> [live.swap(), live.swap(), live.stands]
    [(1, 1, 1, 2, 2, 2), (3, 3, 3), True]
    """,
    """
    >>> from runswap.live import LiveRow
    >>> live = LiveRow.of(3, 5)
    >>> live.put(1, 3)
    >>> live.row
    (3, 3, 5)
    """,
    """
    >>> from runswap.live import LiveRow
    >>> live = LiveRow.of(3, 3, 5)
    >>> [live.take(2), live.row]
    [5, (3, 3)]
    """,
    """
    >>> from runswap.live import LiveRow
    >>> live = LiveRow.of(3, 3, 5)
    >>> [live.change(2, 3), live.runs]
    [5, [(3, 3)]]
    """,
    """
    >>> from runswap.live import LiveRow
    >>> live = LiveRow.of(1, 2)
    >>> row = live.swap()
    >>> live.undo()
    >>> [row, live.row]
    [(1, 1, 1), (1, 2)]
    """,
    """
    >>> from runswap.live import LiveRow
    >>> live = LiveRow.of(3, 5)
    >>> live.put(2, 7)
    >>> [live.take(0), live.log()]
    [3, [('put', 2, 7), ('take', 0)]]
    """,
    """
    >>> from runswap.live import LiveRow
    >>> live = LiveRow.of(1, 2)
    >>> [live.preview(("swap",), ("put", 3, 2)), live.row, live.log()]
    [(1, 1, 1, 2), (1, 2), []]
    """,
    """
    >>> from runswap.live import LiveRow
    >>> [LiveRow.of(2, 1) == LiveRow((2, 1)), LiveRow.of(2, 1) == (2, 1)]
    [True, False]
    """,
]

TEXTS = [
    """
    >>> from runswap.texts import read_row, show_row
    >>> [show_row((3, 3, 5)), read_row('1 2 3 3')]
    ['3 3 5', (1, 2, 3, 3)]
    """,
    """
    >>> from runswap.texts import read_runs, show_runs
    >>> [show_runs([(3, 2), (5, 1)]), read_runs('2*3 1*5')]
    ['3*2 5*1', [(2, 3), (1, 5)]]
    """,
]

CONSOLE = [
    """
    >>> from runswap.console import Console
    >>> console = Console()
    >>> opened = console.say('row 1 2 3 3')
    >>> [console.say(command) for command in ['runs', 'needed', 'pair', 'before', 'number', 'meet 3 3 3', 'swap', 'take 0']]
    ['1*1 2*1 3*2', '2', '3 3 3 / 3 3 3', '0', '91', '2', '1 1 1 2 2 2', '1']
    """,
]

# Point [9]: rounds, row, runs.
TABLE = [
    (0, (1, 2, 3, 3), [(1, 1), (2, 1), (3, 2)]),
    (1, (1, 1, 1, 2, 2, 2), [(1, 3), (2, 3)]),
    (2, (3, 3, 3), [(3, 3)]),
    (3, (3, 3, 3), [(3, 3)]),
]


class ExamplesTest(unittest.TestCase):
    def check(self, examples):
        for example in examples:
            test = doctest.DocTestParser().get_doctest(example, {}, "example", None, None)
            told = []
            result = doctest.DocTestRunner().run(test, out=told.append)
            self.assertGreater(result.attempted, 1)
            self.assertEqual(result.failed, 0, "".join(told))

    def test_rows(self):
        self.check(ROWS)

    def test_settling(self):
        self.check(SETTLING)

    def test_bounds(self):
        self.check(BOUNDS)

    def test_before(self):
        self.check(BEFORE)

    def test_counting(self):
        self.check(COUNTING)

    def test_cycles(self):
        self.check(CYCLES)

    def test_long(self):
        self.check(LONG)

    def test_live(self):
        self.check(LIVE)

    def test_texts(self):
        self.check(TEXTS)

    def test_console(self):
        self.check(CONSOLE)

    def test_table(self):
        from_start = rows_from((1, 2, 3, 3))
        for rounds, row, runs in TABLE:
            with self.subTest(rounds=rounds):
                self.assertEqual(row_after((1, 2, 3, 3), rounds=rounds), row)
                self.assertEqual(next(from_start), row)
                self.assertEqual(runs_of(row), runs)


if __name__ == "__main__":
    unittest.main()
