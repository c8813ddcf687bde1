"""Points [3], [4] and section 13: the console."""

import random
import unittest

from runswap.before import count_before
from runswap.console import Console
from runswap.counting import row_number
from runswap.errors import (Full, InvalidCommand, InvalidEntry, InvalidPlace, InvalidRounds, InvalidText,
                            NothingToUndo)
from runswap.live import LiveRow
from runswap.settling import meeting
from tests.plain import NO_TEXTS, great_rows, plain_rows, plain_runs, plain_way, rows_up_to, rows_with_sum

WITHOUT_NUMBERS = ["swap", "undo", "show", "runs", "needed", "pair", "before", "number"]
WITH_ONE = ["take", "after"]
WITH_TWO = ["put", "change"]
# One form of each command that needs a live row.
FORMS = WITHOUT_NUMBERS + ["take 0", "after 1", "put 0 1", "change 0 1", "meet 1 2"]
NO_ROW_TEXTS = ["", " ", "0", "01", "1 02", "1  2", " 1", "1 ", "a", "-1", "1,2", "1*1", "201", "200 1", "1\t2", "1\r",
                "\u0663", "1 \u00b2", " ".join("1" * 201), "9" * 3000]


def text_of(row):
    return " ".join(str(entry) for entry in row)


def console_with(row):
    console = Console()
    console.say("row " + text_of(row))
    return console


class ConsoleCase(unittest.TestCase):
    def check(self, error, console, command):
        """The command raises exactly this error, with a message, and the live row stays as it is."""
        before = self.state(console)
        with self.assertRaises(error) as caught:
            console.say(command)
        self.assertIs(type(caught.exception), error)
        self.assertNotEqual(str(caught.exception), "")
        self.assertEqual(self.state(console), before)

    def state(self, console):
        try:
            return console.say("show")
        except InvalidCommand:
            return None


class AnswersTest(ConsoleCase):
    def test_rows_and_what_is_told_of_them(self):
        for row in rows_up_to(7) + great_rows():
            console = Console()
            self.assertEqual(console.say("row " + text_of(row)), "ok")
            way = plain_way(row)
            last, after = plain_rows(way[-1], 2)
            expected = {"show": text_of(row), "number": str(row_number(row)), "before": str(count_before(row)),
                        "needed": str(len(way) - 1), "pair": text_of(last) + " / " + text_of(after),
                        "runs": " ".join(f"{number}*{length}" for number, length in plain_runs(row)),
                        "after 0": text_of(row), "after 1": text_of(plain_rows(row, 2)[1]),
                        "meet " + text_of(row): "0"}
            for command, answer in expected.items():
                found = console.say(command)
                self.assertEqual(found, answer)
                self.assertIs(type(found), str)
            self.assertEqual(console.say("show"), text_of(row))

    def test_rounds(self):
        for row in [(1, 2, 3, 3), (3, 3, 5), (1,) * 200, (1, 2) * 60]:
            console = console_with(row)
            rows = plain_rows(row, 42)
            for rounds in range(40):
                self.assertEqual(console.say(f"after {rounds}"), text_of(rows[rounds]))
            self.assertEqual(console.say(f"after {10 ** 30}"), text_of(rows[40]))
            self.assertEqual(console.say(f"after {10 ** 30 - 1}"), text_of(rows[41]))

    def test_meetings(self):
        rows = rows_with_sum(6) + rows_with_sum(5)
        for row in rows:
            console = console_with(row)
            for other in rows:
                rounds = meeting(row, other)
                self.assertEqual(console.say("meet " + text_of(other)), "none" if rounds is None else str(rounds))

    def test_operations(self):
        console = Console()
        steps = [("row 3 5", "ok", "3 5"), ("put 1 3", "ok", "3 3 5"), ("put 3 100", "ok", "3 3 5 100"),
                 ("take 3", "100", "3 3 5"), ("swap", "2 2 2 1 1 1 1 1", "2 2 2 1 1 1 1 1"), ("undo", "ok", "3 3 5"),
                 ("change 2 3", "5", "3 3 3"), ("undo", "ok", "3 3 5"), ("undo", "ok", "3 3 5 100"),
                 ("undo", "ok", "3 3 5"), ("undo", "ok", "3 5"), ("put 0 192", "ok", "192 3 5"),
                 ("change 0 1", "192", "1 3 5"), ("take 0", "1", "3 5"), ("take 1", "5", "3")]
        for command, answer, row in steps:
            self.assertEqual(console.say(command), answer)
            self.assertEqual(console.say("show"), row)

    def test_a_long_way_beside_a_live_row(self):
        chance = random.Random(6)
        console = console_with((1, 2, 3, 3))
        live = LiveRow.of(1, 2, 3, 3)
        for _ in range(180):
            word, *values = chance.choice([("swap",), ("put", chance.randint(0, len(live)), 1 + chance.randint(0, 3)),
                                           ("take", chance.randint(0, len(live))), ("undo",),
                                           ("change", chance.randint(0, len(live)), chance.randint(0, 9))])
            command = " ".join([word] + [str(value) for value in values])
            try:
                answer = getattr(live, word)(*values)
            except ValueError as error:
                self.check(type(error), console, command)
            else:
                expected = "ok" if answer is None else text_of(answer) if word == "swap" else str(answer)
                self.assertEqual(console.say(command), expected)
            self.assertEqual(console.say("show"), text_of(live.row))

    def test_a_new_row_begins_anew(self):
        console = console_with((1, 2))
        console.say("swap")
        self.assertEqual(console.say("row 1 1 1"), "ok")
        self.check(NothingToUndo, console, "undo")
        self.assertEqual(console.say("show"), "1 1 1")

    def test_two_consoles_share_nothing(self):
        one = console_with((1, 2))
        two = Console()
        self.check(InvalidCommand, two, "show")
        two.say("row 5 5")
        one.say("swap")
        two.say("put 0 7")
        self.assertEqual([one.say("show"), two.say("show")], ["1 1 1", "7 5 5"])
        one.say("undo")
        self.check(NothingToUndo, one, "undo")
        self.assertEqual([one.say("show"), two.say("show")], ["1 2", "7 5 5"])


class FormsTest(ConsoleCase):
    def both(self):
        return [Console(), console_with((1, 2, 3, 3))]

    def test_numbers_of_words(self):
        for console in self.both():
            for word in WITHOUT_NUMBERS:
                for command in [word + " ", word + " 0", word + " 1", word + " 1 2", word + " a", word + "  "]:
                    self.check(InvalidCommand, console, command)
            for word in WITH_ONE:
                for command in [word, word + " ", word + "  ", word + " 0 0", word + " 0 ", word + "  0",
                                word + " 0 0 0"]:
                    self.check(InvalidCommand, console, command)
            for word in WITH_TWO:
                for command in [word, word + " ", word + " 0", word + " 0 ", word + " 0 1 ", word + " 0  1",
                                word + "  0 1", word + " 0 1 1", word + "  ", word + "   "]:
                    self.check(InvalidCommand, console, command)
            for command in ["row", "meet"]:
                self.check(InvalidCommand, console, command)

    def test_other_commands(self):
        for console in self.both():
            for command in ["", " ", "  ", "a", "ok", "Swap", "SWAP", "swaps", "swa", " swap", "swap\t", "\tswap",
                            "swap\r", "rows 1", "Row 1", " row 1", "row\t1", "row1", "rows", "meet1", "Meet 1",
                            "take\t0", "take0", "put 0\t1", "put\t0 1", "log", "len", "settled 4", "of 1", "preview",
                            "preview swap", "1", "1 2", "__class__", "swap swap", "swap undo", "show;runs", "take take",
                            " meet 1", "row: 1", "after", "swap\u200b", "before 0", "number 1"]:
                self.check(InvalidCommand, console, command)

    def test_values_that_are_not_strings(self):
        for console in self.both():
            for value in NO_TEXTS + [b"swap", ("swap",), ["swap"], ["row", "1"], ("row 1",), {"swap": 1}, b"row 1"]:
                self.check(InvalidCommand, console, value)

    def test_newlines(self):
        for console in self.both():
            for command in FORMS + ["row 1 2", "row ", "row", "meet ", "row 01", "take 9", "put 0 0"]:
                for text in [command + "\n", "\n" + command, command + "\n\n", command + " \n",
                             command.replace(" ", "\n"), command.replace(" ", " \n"), command.replace(" ", "\n ")]:
                    if "\n" in text:
                        self.check(InvalidCommand, console, text)

    def test_commands_without_a_live_row(self):
        console = Console()
        for command in FORMS + ["meet ", "meet a", "meet 01", "meet 201", "take 99", "put 99 0", "put 0 0",
                                "after " + "9" * 31]:
            self.check(InvalidCommand, console, command)
        console.say("row 1 2")
        for command in FORMS[:1]:
            console.say(command)

    def test_each_form_is_a_command(self):
        for command in FORMS:
            console = console_with((1, 2, 3, 3))
            console.say("swap")
            self.assertIs(type(console.say(command)), str)

    def test_numbers_of_many_digits(self):
        console = console_with((1, 2, 3, 3))
        great = "9" * 31
        for command, error in [("take " + great, InvalidPlace), ("put " + great + " 1", InvalidPlace),
                               ("put 0 " + great, Full), ("change 0 " + great, Full), ("after " + great, InvalidRounds),
                               ("change " + great + " 0", InvalidPlace), ("after 1" + "0" * 29 + "1", InvalidRounds)]:
            self.check(error, console, command)
            # One digit more.
            self.check(InvalidCommand, console, command.replace(great, great + "9").replace("10", "100"))
        for size in [32, 33, 100, 3000, 5000]:
            ones = "1" * size
            for command in ["take " + ones, "put 0 " + ones, "put " + ones + " 1", "after " + ones, "change 0 " + ones]:
                self.check(InvalidCommand, console, command)
        self.assertEqual(console.say("after 1" + "0" * 30), "3 3 3")

    def test_leading_zeros_and_signs(self):
        console = console_with((1, 2, 3, 3))
        for number in ["00", "01", "000", "0" * 31, "-1", "+1", "-0", "1.0", "1_0", "1e1", "0x1", "a", "\u0663",
                       "\u00b2", "1,", "(1)", "True", "None", "*", "1*1"]:
            for command in ["take " + number, "put " + number + " 1", "put 0 " + number, "change " + number + " 1",
                            "change 0 " + number, "after " + number]:
                self.check(InvalidCommand, console, command)
        self.assertEqual([console.say("after 0"), console.say("take 0")], ["1 2 3 3", "1"])


class ErrorsTest(ConsoleCase):
    def test_texts_that_are_no_rows(self):
        for text in NO_ROW_TEXTS:
            console = Console()
            self.check(InvalidText, console, "row " + text)
            self.check(InvalidCommand, console, "show")
            console.say("row 1 2")
            console.say("swap")
            self.check(InvalidText, console, "row " + text)
            self.check(InvalidText, console, "meet " + text)
            self.assertEqual([console.say("show"), console.say("undo"), console.say("show")], ["1 1 1", "ok", "1 2"])

    def test_errors_of_the_functions(self):
        console = console_with((1, 2, 3, 3))
        for command, error in [("take 4", InvalidPlace), ("put 5 1", InvalidPlace), ("put 5 0", InvalidPlace),
                               ("put 0 0", InvalidEntry), ("put 4 192", Full), ("change 4 1", InvalidPlace),
                               ("change 4 0", InvalidPlace), ("change 3 0", InvalidEntry), ("change 3 195", Full),
                               ("undo", NothingToUndo), ("after 1" + "0" * 29 + "1", InvalidRounds)]:
            self.check(error, console, command)
        for command in ["put 4 191", "change 4 1", "change 3 3", "take 4", "change 3 194", "take 0"]:
            console.say(command)
        self.check(InvalidPlace, console_with((5,)), "take 0")

    def test_a_failed_command_can_not_be_undone(self):
        console = console_with((1, 2))
        console.say("put 2 4")
        for command in ["take 3", "put 9 1", "change 0 0", "row 0", "swap 1", "meet ", "after " + "9" * 31]:
            with self.assertRaises(ValueError):
                console.say(command)
        self.assertEqual([console.say("undo"), console.say("show")], ["ok", "1 2"])
        self.check(NothingToUndo, console, "undo")


if __name__ == "__main__":
    unittest.main()
