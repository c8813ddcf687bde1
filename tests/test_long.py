"""Points [2] (a) to (c), [3], [4], [6], [7], [11] and section 10: long rows in blocks."""

import copy
import itertools
import random
import unittest

from runswap.chain import Chain
from runswap.errors import InvalidBlocks, InvalidEntry, InvalidIndex, InvalidPlace, InvalidRounds
from runswap.long import is_blocks, long_after, long_count, long_entry, long_find, long_needed
from runswap.rows import row_after, runs_of
from runswap.settling import rounds_needed
from tests.plain import (MANY, NO_BLOCKS, NO_ENTRIES, NO_PLACES, NO_ROW_ROUNDS, great_rows, lines_run, plain_joined,
                         plain_rows, plain_runs, plain_spread, plain_turned, rows_up_to)

ALWAYS = 10 ** 30
BLOCKS = ((7, 4), (3, 4), (2, 5))
FUNCTIONS = [long_after, long_needed,
             lambda blocks: long_entry(blocks, 0),
             lambda blocks: long_count(blocks, 1),
             lambda blocks: long_find(blocks, 1, 0)]


def small_blocks():
    """All blocks of at most three small numbers and lengths, and some of more."""
    parts = list(itertools.product(range(1, 4), repeat=2))
    found = [blocks for size in (1, 2, 3) for blocks in itertools.product(parts, repeat=size)]
    chance = random.Random(11)
    return found + [tuple(chance.choice(parts) for _ in range(chance.randint(4, 12))) for _ in range(150)]


def cut_blocks(row, chance):
    """Blocks of a row, its runs cut anywhere."""
    blocks = []
    for number, length in plain_runs(row):
        left = length
        while left > 0:
            part = chance.randint(1, left)
            blocks.append((number, part))
            left -= part
    return tuple(blocks)


def great_blocks():
    """Blocks with numbers and lengths up to 10 ** 28."""
    chance = random.Random(7)
    parts = [1, 2, 3, MANY, MANY - 1, MANY // 2, 10 ** 27]
    some = [tuple((chance.choice(parts), chance.choice(parts)) for _ in range(size))
            for size in [1, 2, 3, 5, 8, 13, 40, 100, 200] for _ in range(6)]
    # Blocks that all join in the first round, or in the second one, or one after the other.
    alike = [((MANY, MANY),) * 200, tuple((1 + place % 2, MANY) for place in range(200)),
             tuple((MANY, 1 + place) for place in range(200)), tuple((MANY - place, 1 + place) for place in range(200))]
    return some + alike + [slow_blocks(root, scale) for root in (5, 30, 101) for scale in (1, 10 ** 25)]


def chance_runs():
    """Runs with numbers and lengths so small that many rounds join some of them."""
    chance = random.Random(13)
    found = []
    for _ in range(1500):
        blocks = [(chance.randint(1, 4), chance.randint(1, 4)) for _ in range(chance.randint(1, 30))]
        found.append(plain_joined(blocks))
    return found


def slow_blocks(root, scale):
    """Blocks in which the joined runs let the next ones join, round by round, forwards or from the end."""
    runs = []
    for number in range(root, 2, -1):
        runs.extend([(number * scale, scale), (scale, (number - 1) * scale)])
    return tuple(runs + [(2 * scale, 2 * scale)])


def plain_long(blocks, count):
    """The runs after 0, 1 and so on rounds, so many in all."""
    found = [plain_joined(blocks)]
    while len(found) < count:
        found.append(plain_turned(found[-1]))
    return found


class BlocksTest(unittest.TestCase):
    def test_blocks(self):
        edges = [((1, 1),), ((MANY, MANY),), ((MANY, 1), (1, MANY)), ((1, 1),) * 200, ((1, 1), (1, 1)),
                 ((MANY, MANY),) * 200, ((7, 10 ** 28), (7, 5))]
        for blocks in edges + small_blocks() + great_blocks():
            self.assertIs(is_blocks(blocks), True)

    def test_no_blocks(self):
        for place, value in enumerate(NO_BLOCKS):
            with self.subTest(place=place):
                self.assertIs(is_blocks(value), False)

    def test_a_wrong_block_at_any_place(self):
        wrong = [None, 1, (), (1,), (1, 1, 1), [1, 1], "11", (0, 1), (1, 0), (-1, 1), (1, -1), (True, 1), (1, True),
                 (False, 1), (1, False), (MANY + 1, 1), (1, MANY + 1), ("1", 1), (1, "1"), (None, 1), (1, None),
                 ((1, 1), 1), (1, (1,)), {1: 1, 2: 2}, (10 ** 5000, 1), (1, -10 ** 5000)]
        for block in wrong:
            for size in [1, 2, 3, 100, 200]:
                for place in {0, size // 2, size - 1}:
                    blocks = ((3, 2),) * place + (block,) + ((1, 4),) * (size - place - 1)
                    self.assertIs(is_blocks(blocks), False)
                    with self.assertRaises(InvalidBlocks):
                        long_after(blocks)

    def test_the_greatest_number_and_length_at_any_place(self):
        for size in [1, 2, 100, 200]:
            for place in {0, size // 2, size - 1}:
                for block in [(MANY, 1), (1, MANY), (MANY, MANY)]:
                    blocks = ((3, 2),) * place + (block,) + ((1, 4),) * (size - place - 1)
                    self.assertIs(is_blocks(blocks), True)

    def test_subclasses_of_integers_and_tuples(self):
        class Number(int):
            pass

        class Pair(tuple):
            pass

        self.assertIs(is_blocks(Pair([Pair([Number(3), Number(MANY)])])), True)
        self.assertIs(is_blocks(((Number(0), 1),)), False)
        self.assertIs(is_blocks(((1, Number(MANY + 1)),)), False)

    def test_empty_and_too_many(self):
        self.assertEqual([is_blocks(((2, 3),) * size) for size in [0, 1, 2, 199, 200, 201, 300]],
                         [False, True, True, True, True, False, False])


class SmallTest(unittest.TestCase):
    def test_rounds_against_rows_that_are_spread_out(self):
        for blocks in small_blocks():
            for rounds, row in enumerate(plain_rows(plain_spread(blocks), 5)):
                self.assertEqual(long_after(blocks, rounds=rounds), tuple(plain_runs(row)))

    def test_one_round_if_none_are_told(self):
        for blocks in small_blocks()[::5]:
            self.assertEqual(long_after(blocks), long_after(blocks, rounds=1))
            self.assertEqual(long_entry(blocks, 0), long_entry(blocks, 0, rounds=1))
            self.assertEqual(long_count(blocks, 2), long_count(blocks, 2, rounds=1))
            self.assertEqual(long_find(blocks, 2, 0), long_find(blocks, 2, 0, rounds=1))

    def test_needed_against_rows_that_are_spread_out(self):
        for blocks in small_blocks():
            rows = plain_rows(plain_spread(blocks), 30)
            # The first row that comes again ([2] (b)).
            first = next(rounds for rounds, row in enumerate(rows[:-2]) if rows[rounds + 2] == row)
            self.assertEqual(long_needed(blocks), first)

    def test_entries_counts_and_places(self):
        for blocks in small_blocks()[::7]:
            for rounds, row in enumerate(plain_rows(plain_spread(blocks), 4)):
                self.check(blocks, rounds, row)

    def check(self, blocks, rounds, row):
        self.assertEqual(tuple(long_entry(blocks, place, rounds=rounds) for place in range(len(row))), row)
        for place in [len(row), len(row) + 1, 10 ** 64 - 1]:
            with self.assertRaises(InvalidPlace):
                long_entry(blocks, place, rounds=rounds)
        for number in range(-1, max(row) + 2):
            places = [place for place, entry in enumerate(row) if entry == number]
            self.assertEqual(long_count(blocks, number, rounds=rounds), len(places))
            found = [long_find(blocks, number, index, rounds=rounds) for index in range(len(places) + 2)]
            self.assertEqual(found, places + [None, None])

    def test_blocks_cut_in_any_way(self):
        chance = random.Random(3)
        for row in rows_up_to(8) + great_rows():
            blocks = cut_blocks(row, chance)
            self.assertEqual(long_after(blocks, rounds=0), tuple(plain_runs(row)))
            self.assertEqual(long_after(blocks), long_after(tuple(plain_runs(row))))
            self.assertEqual(long_needed(blocks), long_needed(tuple(plain_runs(row))))
        self.assertEqual(long_after(((7, 1),) * 200, rounds=0), ((7, 200),))

    def test_rows_are_told_alike(self):
        for row in rows_up_to(10) + great_rows():
            blocks = tuple(runs_of(row))
            self.assertEqual(long_needed(blocks), rounds_needed(row))
            for rounds in [0, 1, 2, 3, 7, 24, 25, 200, ALWAYS - 1, ALWAYS]:
                self.assertEqual(list(long_after(blocks, rounds=rounds)), runs_of(row_after(row, rounds=rounds)))


class ChainTest(unittest.TestCase):
    def test_round_by_round(self):
        for runs in chance_runs() + [plain_joined(blocks) for blocks in great_blocks()]:
            chain = Chain(runs)
            found = runs
            while found != plain_turned(plain_turned(found)):
                self.assertIs(chain.play(), True)
                found = plain_turned(found)
                self.assertEqual(chain.runs_now(), found)
            # Nothing is played on settled runs.
            for _ in range(2):
                self.assertIs(chain.play(), False)
                self.assertEqual(chain.runs_now(), found)


class GreatTest(unittest.TestCase):
    def test_rounds(self):
        for blocks in great_blocks():
            runs = plain_long(blocks, 206)
            for rounds in [0, 1, 2, 3, 4, 5, 6, 7, 20, 21, 57, 58, 59, 195, 196, 197, 198, 199, 204, 205]:
                self.assertEqual(long_after(blocks, rounds=rounds), tuple(runs[rounds]))
            self.assertEqual(long_after(blocks, rounds=ALWAYS), tuple(runs[204]))
            self.assertEqual(long_after(blocks, rounds=ALWAYS - 1), tuple(runs[205]))
            self.assertEqual(long_after(blocks, rounds=10 ** 29 + 7), tuple(runs[205]))

    def test_needed(self):
        for blocks in great_blocks() + [blocks[::-1] for blocks in great_blocks()]:
            runs = plain_long(blocks, 206)
            first = next(rounds for rounds in range(204) if runs[rounds + 2] == runs[rounds])
            self.assertEqual(long_needed(blocks), first)
            # [2] (c).
            self.assertLessEqual(first, len(runs[0]) - 1)

    def test_slow_blocks(self):
        blocks = slow_blocks(101, 10 ** 25)
        self.assertEqual([len(blocks), is_blocks(blocks)], [199, True])
        for found in [blocks, blocks[::-1]]:
            self.assertEqual(long_needed(found), 198)
            self.assertEqual(long_after(found, rounds=198), ((101 * 10 ** 25, 101 * 10 ** 25),))
            self.assertEqual(len(long_after(found, rounds=197)), 2)
            self.assertEqual(len(long_after(found, rounds=100)), 99)

    def test_entries(self):
        for blocks in great_blocks():
            runs = plain_long(blocks, 206)
            for rounds, found in [(0, runs[0]), (1, runs[1]), (2, runs[2]), (ALWAYS, runs[204])]:
                start = 0
                for number, length in found:
                    for place in {start, start + length // 2, start + length - 1}:
                        self.assertEqual(long_entry(blocks, place, rounds=rounds), number)
                    start += length
                for place in [start, start + 1, 10 ** 64 - 1]:
                    with self.assertRaises(InvalidPlace):
                        long_entry(blocks, place, rounds=rounds)

    def test_counts_and_places(self):
        for blocks in great_blocks()[::3]:
            runs = plain_long(blocks, 206)
            for rounds, found in [(0, runs[0]), (1, runs[1]), (2, runs[2]), (ALWAYS, runs[204])]:
                for number in {number for number, _ in found[:20]} | {0, -1, 5, 10 ** 63}:
                    self.check(blocks, rounds, found, number)

    def check(self, blocks, rounds, runs, number):
        count = sum(length for entry, length in runs if entry == number)
        self.assertEqual(long_count(blocks, number, rounds=rounds), count)
        start = 0
        index = 0
        for entry, length in runs:
            if entry == number:
                self.assertEqual(long_find(blocks, number, index, rounds=rounds), start)
                self.assertEqual(long_find(blocks, number, index + length - 1, rounds=rounds), start + length - 1)
                index += length
            start += length
        for index in [count, count + 1, 10 ** 64 - 1]:
            self.assertIsNone(long_find(blocks, number, index, rounds=rounds))

    def test_the_sum_stays_the_same(self):
        for blocks in great_blocks():
            total = sum(number * length for number, length in blocks)
            for rounds in [0, 1, 2, 3, 50, ALWAYS]:
                runs = long_after(blocks, rounds=rounds)
                self.assertEqual(sum(number * length for number, length in runs), total)

    def test_what_is_returned_may_be_greater_than_blocks(self):
        self.assertEqual(long_after(((MANY, MANY), (MANY - 1, MANY))), ((MANY, 2 * MANY - 1),))
        self.assertEqual(long_after(((MANY, MANY),) * 200, rounds=0), ((MANY, 200 * MANY),))
        self.assertEqual(long_entry(((MANY, MANY),) * 200, 7), 200 * MANY)
        with self.assertRaises(InvalidBlocks):
            long_after(long_after(((MANY, MANY),) * 200))

    def test_what_is_returned_may_be_passed_back(self):
        for blocks in small_blocks()[::9]:
            for rounds in [0, 1, 2]:
                self.assertEqual(long_after(long_after(blocks, rounds=rounds), rounds=3),
                                 long_after(blocks, rounds=rounds + 3))

    def test_kinds_of_what_is_returned(self):
        for blocks in [BLOCKS, ((7, MANY), (7, 5)), slow_blocks(30, 5)]:
            for rounds in [0, 1, 2, 7, ALWAYS]:
                runs = long_after(blocks, rounds=rounds)
                self.assertIs(type(runs), tuple)
                self.assertEqual({type(run) for run in runs}, {tuple})
                self.assertEqual({type(value) for run in runs for value in run}, {int})
            found = [long_needed(blocks), long_entry(blocks, 3), long_count(blocks, 4), long_count(blocks, 10 ** 40)]
            self.assertEqual([type(value) for value in found], [int] * 4)
            self.assertIs(type(long_find(blocks, runs[0][0], 0, rounds=ALWAYS)), int)

    def test_slow_blocks_are_not_played_run_by_run(self):
        self.assertLess(lines_run(lambda: long_needed(slow_blocks(101, 1))), 20000)
        self.assertLess(lines_run(lambda: long_after(((1, 1), (2, 1)) * 100, rounds=ALWAYS)), 8000)


class ErrorsTest(unittest.TestCase):
    def check(self, error, call):
        """The call raises exactly this error, and with a message."""
        with self.assertRaises(error) as caught:
            call()
        self.assertIs(type(caught.exception), error)
        self.assertNotEqual(str(caught.exception), "")

    def test_wrong_blocks(self):
        for value in NO_BLOCKS:
            for function in FUNCTIONS:
                self.check(InvalidBlocks, lambda: function(value))

    def test_wrong_rounds(self):
        for value in NO_ROW_ROUNDS:
            self.check(InvalidRounds, lambda: long_after(BLOCKS, rounds=value))
            self.check(InvalidRounds, lambda: long_entry(BLOCKS, 0, rounds=value))
            self.check(InvalidRounds, lambda: long_count(BLOCKS, 4, rounds=value))
            self.check(InvalidRounds, lambda: long_find(BLOCKS, 4, 0, rounds=value))

    def test_wrong_places(self):
        for value in NO_PLACES + [12, 13, 10 ** 64 - 1, 10 ** 5000]:
            self.check(InvalidPlace, lambda: long_entry(BLOCKS, value))
            self.check(InvalidPlace, lambda: long_entry(BLOCKS, value, rounds=ALWAYS - 1))

    def test_wrong_numbers_and_indexes(self):
        for value in NO_ENTRIES:
            self.check(InvalidEntry, lambda: long_count(BLOCKS, value))
            self.check(InvalidEntry, lambda: long_find(BLOCKS, value, 0))
        for value in NO_PLACES:
            self.check(InvalidIndex, lambda: long_find(BLOCKS, 4, value))

    def test_any_integer_is_a_number(self):
        for number in [0, -1, -10 ** 63, 10 ** 64 - 1, 10 ** 5000, -10 ** 5000]:
            self.assertEqual(long_count(BLOCKS, number), 0)
            self.assertIsNone(long_find(BLOCKS, number, 0))
            self.assertIsNone(long_find(BLOCKS, number, 10 ** 5000))

    def test_first_and_last_valid_values(self):
        for rounds in [0, ALWAYS]:
            self.assertEqual(long_entry(BLOCKS, 0, rounds=rounds), [7, 10][rounds > 0])
            self.assertEqual(long_count(BLOCKS, 2, rounds=rounds), 5)
            self.assertEqual(long_find(BLOCKS, 2, 4, rounds=rounds), [12, 8][rounds > 0])
        self.assertEqual(long_entry(BLOCKS, 11), 5)
        self.assertEqual(long_entry(((1, 1),), 0), 1)

    def test_the_error_listed_first_is_raised(self):
        for blocks in [None, (), ((1, 0),), [(1, 1)]]:
            self.check(InvalidBlocks, lambda: long_after(blocks, rounds=-1))
            self.check(InvalidBlocks, lambda: long_entry(blocks, -1, rounds=-1))
            self.check(InvalidBlocks, lambda: long_count(blocks, None, rounds=-1))
            self.check(InvalidBlocks, lambda: long_find(blocks, None, -1, rounds=-1))
        for rounds in [-1, True, None, ALWAYS + 1]:
            for place in [-1, None, True, 12, 10 ** 40]:
                self.check(InvalidRounds, lambda: long_entry(BLOCKS, place, rounds=rounds))
            for number in [None, True, "4"]:
                self.check(InvalidEntry, lambda: long_count(BLOCKS, number, rounds=rounds))
                self.check(InvalidEntry, lambda: long_find(BLOCKS, number, -1, rounds=rounds))
                self.check(InvalidEntry, lambda: long_find(BLOCKS, number, 0, rounds=0))
            for index in [-1, None, True]:
                self.check(InvalidIndex, lambda: long_find(BLOCKS, 4, index, rounds=rounds))

    def test_arguments_are_not_changed(self):
        for value in [[(1, 1)], ([1, 1],), ((1, [2]),)]:
            before = copy.deepcopy(value)
            self.assertIs(is_blocks(value), False)
            for function in FUNCTIONS:
                self.check(InvalidBlocks, lambda: function(value))
            self.assertEqual(value, before)


if __name__ == "__main__":
    unittest.main()
