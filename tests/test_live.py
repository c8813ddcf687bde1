"""Points [3], [4], [6] to [8] and section 11: live rows."""

import copy
import random
import unittest

from runswap.cycles import count_settled, nth_settled
from runswap.errors import (Full, InvalidEntry, InvalidNumber, InvalidOperation, InvalidPlace, InvalidRow,
                            InvalidTotal, NothingToUndo)
from runswap.live import LiveRow
from tests.plain import (NO_ENTRIES, NO_NUMBERS, NO_OPERATIONS, NO_PLACES, NO_ROWS, NO_TOTALS, great_rows,
                         plain_round, plain_runs, plain_settled, rows_up_to, rows_with_sum)

NO_FIRST_ENTRIES = NO_ENTRIES + [0, -1, -10 ** 30, -10 ** 5000]


def plain_change(row, operation):
    """The row after an operation that is possible."""
    word, *values = operation
    entries = list(row)
    if word == "swap":
        return plain_round(row)
    if word == "put":
        entries.insert(*values)
    elif word == "take":
        entries.pop(values[0])
    else:
        entries[values[0]] = values[1]
    return tuple(entries)


def plain_answer(row, operation):
    """What the call of an operation returns."""
    if operation[0] == "swap":
        return plain_round(row)
    return None if operation[0] == "put" else row[operation[1]]


def call(live, operation):
    return getattr(live, operation[0])(*operation[1:])


def possible_operations(row):
    """Operations at both ends and in the middle, with the greatest entry that is possible, too."""
    left = 200 - sum(row)
    found = [("swap",)]
    for place in {0, len(row) // 2, len(row)}:
        found.extend([("put", place, number) for number in {1, 2, left // 2, left} if 1 <= number <= left])
    for place in {0, len(row) // 2, len(row) - 1}:
        if len(row) > 1:
            found.append(("take", place))
        most = left + row[place]
        found.extend([("change", place, number) for number in {1, 3, most // 2, most} if 1 <= number <= most])
    return sorted(found)


class LiveCase(unittest.TestCase):
    def check(self, error, call):
        """The call raises exactly this error, and with a message."""
        with self.assertRaises(error) as caught:
            call()
        self.assertIs(type(caught.exception), error)
        self.assertNotEqual(str(caught.exception), "")

    def check_state(self, live, row, log):
        self.assertEqual(live.row, row)
        self.assertEqual(live.runs, plain_runs(row))
        self.assertIs(live.stands, plain_settled(row))
        self.assertEqual(len(live), len(row))
        self.assertEqual(live.log(), log)


class NewTest(LiveCase):
    def test_new_live_rows(self):
        for row in rows_up_to(8) + great_rows() + [(200,), (1,) * 200]:
            self.check_state(LiveRow(row), row, [])
            self.check_state(LiveRow.of(*row), row, [])

    def test_settled(self):
        for total in [1, 4, 9, 13]:
            for number in range(count_settled(total)):
                self.check_state(LiveRow.settled(total, number=number), nth_settled(total, number), [])
            self.assertEqual(LiveRow.settled(total).row, (1,) * total)
        self.assertEqual(LiveRow.settled(200, number=count_settled(200) - 1).row, (200,))

    def test_what_is_returned(self):
        for live in [LiveRow((1, 2)), LiveRow.of(1, 2), LiveRow.settled(3)]:
            self.assertIs(type(live), LiveRow)
            self.assertEqual([type(live.row), type(live.runs), type(live.stands), type(live.log())],
                             [tuple, list, bool, list])
            self.assertEqual({type(run) for run in live.runs}, {tuple})
        self.assertEqual([LiveRow.LIMIT, LiveRow.of(1).LIMIT], [200, 200])

    def test_properties_are_not_assigned(self):
        live = LiveRow.of(1, 2)
        for name, value in [("row", (1,)), ("runs", []), ("stands", True)]:
            with self.assertRaises(AttributeError):
                setattr(live, name, value)
        self.check_state(live, (1, 2), [])


class OperationsTest(LiveCase):
    def test_each_operation_on_all_small_rows(self):
        for row in rows_up_to(7) + great_rows():
            for operation in possible_operations(row):
                live = LiveRow(row)
                self.assertEqual(call(live, operation), plain_answer(row, operation))
                self.check_state(live, plain_change(row, operation), [operation])
                self.assertIsNone(live.undo())
                self.check_state(live, row, [])

    def test_sums_at_the_limit(self):
        for row in [(1,), (100, 99), (1,) * 199, (199,), (3, 3, 193), (50, 50, 50)]:
            left = 200 - sum(row)
            for place in {0, len(row) // 2, len(row)}:
                live = LiveRow(row)
                self.check(Full, lambda: live.put(place, left + 1))
                self.check(Full, lambda: live.put(place, 10 ** 5000))
                self.check_state(live, row, [])
                live.put(place, left)
                self.assertEqual(sum(live.row), 200)
                self.check(Full, lambda: live.put(place, 1))
            for place in {0, len(row) // 2, len(row) - 1}:
                live = LiveRow(row)
                self.check(Full, lambda: live.change(place, left + row[place] + 1))
                self.check(Full, lambda: live.change(place, 10 ** 5000))
                self.check_state(live, row, [])
                self.assertEqual(live.change(place, left + row[place]), row[place])
                self.assertEqual(sum(live.row), 200)
                self.assertEqual(live.change(place, 1), left + row[place])

    def test_the_only_entry_is_not_taken(self):
        live = LiveRow.of(5, 3)
        self.assertEqual(live.take(1), 3)
        self.check(InvalidPlace, lambda: live.take(0))
        self.check_state(live, (5,), [("take", 1)])
        self.assertEqual(live.change(0, 200), 5)
        self.assertEqual(live.swap(), (1,) * 200)
        self.check(Full, lambda: live.put(200, 1))
        self.assertEqual([live.take(199), len(live)], [1, 199])

    def test_operations_that_change_nothing_are_operations(self):
        live = LiveRow.of(2, 2)
        self.assertEqual([live.swap(), live.change(1, 2), live.row], [(2, 2), 2, (2, 2)])
        self.assertEqual(live.log(), [("swap",), ("change", 1, 2)])
        live.undo()
        live.undo()
        self.check(NothingToUndo, live.undo)

    def test_long_ways_beside_a_plain_simulation(self):
        for start in [(1, 2, 3, 3), (200,), (1,) * 200, (1, 2) * 60, (3,), (100, 100)]:
            for seed in range(4):
                self.follow(start, random.Random(seed))

    def follow(self, start, chance):
        live = LiveRow(start)
        rows = [start]
        log = []
        for _ in range(200):
            if log and chance.random() < 0.3:
                self.assertIsNone(live.undo())
                rows.pop()
                log.pop()
            else:
                operation = chance.choice(possible_operations(rows[-1]))
                self.assertEqual(call(live, operation), plain_answer(rows[-1], operation))
                rows.append(plain_change(rows[-1], operation))
                log.append(operation)
            self.assertEqual([live.row, live.log()], [rows[-1], log])
        self.check_state(live, rows[-1], log)
        self.assertEqual(LiveRow(start).preview(), start)

    def test_undo_back_to_the_beginning_and_one_more(self):
        chance = random.Random(2)
        live = LiveRow.of(1, 2, 3, 3)
        rows = [live.row]
        for _ in range(100):
            operation = chance.choice(possible_operations(live.row))
            call(live, operation)
            rows.append(live.row)
        log = live.log()
        while log:
            self.check_state(live, rows.pop(), log)
            live.undo()
            log.pop()
        for _ in range(3):
            self.check(NothingToUndo, live.undo)
            self.check_state(live, (1, 2, 3, 3), [])
        self.assertEqual(live.swap(), (1, 1, 1, 2, 2, 2))
        self.check_state(live, (1, 1, 1, 2, 2, 2), [("swap",)])

    def test_further_operations_behind_undos(self):
        live = LiveRow.of(3, 5)
        live.put(2, 7)
        live.swap()
        live.undo()
        live.change(0, 1)
        live.undo()
        live.undo()
        live.take(0)
        self.check_state(live, (5,), [("take", 0)])
        live.undo()
        self.check_state(live, (3, 5), [])


class SharingTest(LiveCase):
    def test_lists_that_the_caller_changes(self):
        live = LiveRow.of(1, 2, 3, 3)
        live.swap()
        runs = live.runs
        log = live.log()
        self.assertIsNot(live.runs, live.runs)
        self.assertIsNot(live.log(), live.log())
        runs.append((9, 9))
        runs[0] = None
        log.append(("take", 0))
        log[0] = None
        self.check_state(live, (1, 1, 1, 2, 2, 2), [("swap",)])
        live.log().clear()
        live.undo()
        self.check_state(live, (1, 2, 3, 3), [])

    def test_two_live_rows_share_nothing(self):
        row = (1, 2, 3, 3)
        one = LiveRow(row)
        two = LiveRow(row)
        one.swap()
        self.check_state(two, row, [])
        two.put(0, 5)
        two.take(4)
        self.check_state(one, (1, 1, 1, 2, 2, 2), [("swap",)])
        self.check_state(two, (5, 1, 2, 3), [("put", 0, 5), ("take", 4)])
        one.undo()
        self.check(NothingToUndo, one.undo)
        self.check_state(two, (5, 1, 2, 3), [("put", 0, 5), ("take", 4)])
        self.assertEqual(row, (1, 2, 3, 3))


class PreviewTest(LiveCase):
    def test_previews_of_all_lengths(self):
        chance = random.Random(4)
        for start in rows_with_sum(6) + [(200,), (1,) * 200, (1, 2) * 60]:
            live = LiveRow(start)
            live.swap()
            row = live.row
            for size in range(13):
                operations = []
                later = row
                for _ in range(size):
                    operations.append(chance.choice(possible_operations(later)))
                    later = plain_change(later, operations[-1])
                found = live.preview(*operations)
                self.assertEqual(found, later)
                self.assertIs(type(found), tuple)
                self.check_state(live, row, [("swap",)])
            live.undo()
            self.check_state(live, start, [])

    def test_no_operation(self):
        live = LiveRow.of(1, 2)
        self.assertEqual(live.preview(), (1, 2))
        live.swap()
        self.assertEqual(live.preview(), (1, 1, 1))

    def test_a_log_may_be_passed_back(self):
        live = LiveRow.of(1, 2, 3, 3)
        for operation in [("put", 0, 9), ("swap",), ("change", 2, 4), ("take", 1), ("swap",)]:
            call(live, operation)
        self.assertEqual(LiveRow.of(1, 2, 3, 3).preview(*live.log()), live.row)

    def test_operations_that_are_not_possible(self):
        wrong = [(("take", 4), InvalidPlace), (("take", None), InvalidPlace), (("put", 5, 1), InvalidPlace),
                 (("put", 0, 0), InvalidEntry), (("put", 0, True), InvalidEntry), (("put", -1, 0), InvalidPlace),
                 (("put", 4, 192), Full), (("change", 4, 1), InvalidPlace), (("change", 3, "3"), InvalidEntry),
                 (("change", 3, 195), Full), (("change", True, None), InvalidPlace), (("put", [], ()), InvalidPlace)]
        live = LiveRow.of(1, 2, 3, 3)
        live.change(0, 1)
        for operation, error in wrong:
            for size in range(12):
                # Put and taken back, so that the row is the same again.
                ahead = [("put", 1, 7), ("take", 1)] * 6
                operations = ahead[:size // 2 * 2] + [operation] + [("swap",)] * (11 - size)
                self.check(error, lambda: live.preview(*operations))
                self.check_state(live, (1, 2, 3, 3), [("change", 0, 1)])

    def test_the_first_error_is_raised(self):
        live = LiveRow.of(3, 5)
        self.check(Full, lambda: live.preview(("put", 0, 193), ("take", 9)))
        self.check(InvalidPlace, lambda: live.preview(("take", 0), ("take", 0), ("put", 0, 0)))
        self.check(InvalidEntry, lambda: live.preview(("swap",), ("put", 0, None), ("put", 0, 200)))

    def test_values_that_are_no_operations_at_each_place(self):
        live = LiveRow.of(1, 2)
        live.swap()
        for value in NO_OPERATIONS:
            self.check(InvalidOperation, lambda: live.preview(value))
        for value in NO_OPERATIONS:
            for size in [1, 2, 12]:
                for place in {0, size // 2, size - 1}:
                    # Even behind operations that are not possible.
                    for filled in [("swap",), ("take", 99), ("put", None, None), ("put", 0, 200)]:
                        operations = [filled] * place + [value] + [filled] * (size - place - 1)
                        self.check(InvalidOperation, lambda: live.preview(*operations))
        self.check_state(live, (1, 1, 1), [("swap",)])

    def test_previews_are_not_counted_and_leave_nothing_behind(self):
        live = LiveRow.of(1, 2)
        for _ in range(300):
            live.preview(*[("swap",)] * 12)
        self.check(NothingToUndo, live.undo)


class EqualTest(LiveCase):
    def test_live_rows(self):
        rows = rows_up_to(5)
        for one in rows:
            for two in rows:
                self.assertIs(LiveRow(one) == LiveRow(two), one == two)
                self.assertIs(LiveRow(one) != LiveRow(two), one != two)

    def test_the_way_there_does_not_matter(self):
        one = LiveRow.of(1, 2)
        one.swap()
        two = LiveRow.of(1, 1)
        two.put(0, 1)
        self.assertIs(one == two, True)
        self.assertIs(one != two, False)
        one.undo()
        self.assertIs(one == two, False)
        self.assertIs(one != two, True)
        self.assertIs(one == one, True)

    def test_other_values(self):
        class Alike:
            def __eq__(self, other):
                return True

            __hash__ = None

        live = LiveRow.of(2, 1)
        for value in [(2, 1), [2, 1], [(2, 1), (1, 1)], "2 1", None, 2, True, LiveRow, object(), {}, {1}, Alike()]:
            self.assertIs(live == value, False)
            self.assertIs(live != value, True)


class ErrorsTest(LiveCase):
    def test_wrong_rows(self):
        for value in NO_ROWS:
            self.check(InvalidRow, lambda: LiveRow(value))
            if isinstance(value, tuple) and len(value) <= 300:
                self.check(InvalidRow, lambda: LiveRow.of(*value))
        self.check(InvalidRow, LiveRow.of)
        self.check(InvalidRow, lambda: LiveRow.of((1, 2)))

    def test_wrong_totals_and_numbers(self):
        for value in NO_TOTALS:
            self.check(InvalidTotal, lambda: LiveRow.settled(value))
            self.check(InvalidTotal, lambda: LiveRow.settled(value, number=0))
            self.check(InvalidTotal, lambda: LiveRow.settled(value, number=None))
        for total in [1, 4, 200]:
            for value in NO_NUMBERS + [count_settled(total), count_settled(total) + 1]:
                self.check(InvalidNumber, lambda: LiveRow.settled(total, number=value))
            LiveRow.settled(total, number=count_settled(total) - 1)

    def test_wrong_places(self):
        live = LiveRow.of(1, 2, 3)
        live.swap()
        live.undo()
        for value in NO_PLACES + [4, 5, 10 ** 30, 10 ** 5000]:
            self.check(InvalidPlace, lambda: live.put(value, 1))
            # The place is checked first.
            for number in [0, None, True, 199, 10 ** 30]:
                self.check(InvalidPlace, lambda: live.put(value, number))
                self.check(InvalidPlace, lambda: live.change(value, number))
        for value in NO_PLACES + [3, 4, 10 ** 30]:
            self.check(InvalidPlace, lambda: live.take(value))
            self.check(InvalidPlace, lambda: live.change(value, 1))
            self.check(InvalidPlace, lambda: LiveRow.of(5).take(value))
        self.check_state(live, (1, 2, 3), [])

    def test_wrong_entries(self):
        full = LiveRow.of(200)
        live = LiveRow.of(1, 2, 3)
        for value in NO_FIRST_ENTRIES:
            for place in range(3):
                self.check(InvalidEntry, lambda: live.put(place, value))
                self.check(InvalidEntry, lambda: live.change(place, value))
            self.check(InvalidEntry, lambda: full.put(1, value))
            self.check(InvalidEntry, lambda: full.change(0, value))
        self.check_state(live, (1, 2, 3), [])
        self.check_state(full, (200,), [])

    def test_a_wrong_call_keeps_what_can_be_undone(self):
        live = LiveRow.of(1, 2)
        live.swap()
        for wrong in [lambda: live.put(9, 1), lambda: live.put(0, 0), lambda: live.put(0, 198), lambda: live.take(3),
                      lambda: live.change(3, 1), lambda: live.change(0, 0), lambda: live.change(0, 199),
                      lambda: live.preview(("take", 9)), lambda: live.preview(None)]:
            self.assertRaises(ValueError, wrong)
            self.check_state(live, (1, 1, 1), [("swap",)])
        live.undo()
        self.check_state(live, (1, 2), [])

    def test_first_and_last_places(self):
        for place in range(4):
            live = LiveRow.of(1, 2, 3)
            live.put(place, 9)
            self.assertEqual(live.row[place], 9)
        for place in range(3):
            live = LiveRow.of(1, 2, 3)
            self.assertEqual([live.change(place, 9), live.take(place)], [place + 1, 9])

    def test_arguments_are_not_changed(self):
        value = ["swap"]
        operations = [("put", 0, 1), ("swap",)]
        before = copy.deepcopy([value, operations])
        self.check(InvalidOperation, lambda: LiveRow.of(1).preview(value))
        LiveRow.of(1).preview(*operations)
        self.assertEqual([value, operations], before)


if __name__ == "__main__":
    unittest.main()
