"""Points [3] to [6], [12] and section 12: texts of rows and of runs."""

import copy
import itertools
import unittest

from runswap.errors import InvalidRow, InvalidRuns, InvalidText
from runswap.texts import read_row, read_runs, show_row, show_runs
from tests.plain import NO_ROWS, NO_RUNS, NO_TEXTS, great_rows, plain_runs, rows_up_to

# Digits of other scripts, a superscript and full-width signs; what `str.split` or `int` also takes.
OTHER_SIGNS = ["\u0663", "\u00b2", "\uff13", "\u0969", "\u2460", "\u00a0", "\u3000", "\t", "\n", "\r", "\x0b", "\x0c",
               "\x1c", "\x1f", "\x85", "\u2028", "\x00", "_", "+", "-", ",", ";", ".", "/", "x", "e", "a", "%", "(",
               ")", "\ud800"]


class TextCase(unittest.TestCase):
    def check(self, error, call):
        """The call raises exactly this error, and with a message."""
        with self.assertRaises(error) as caught:
            call()
        self.assertIs(type(caught.exception), error)
        self.assertNotEqual(str(caught.exception), "")

    def check_no_text(self, read, text):
        with self.subTest(text=ascii(text)[:60]):
            self.check(InvalidText, lambda: read(text))


class RowTextTest(TextCase):
    def test_rows_and_back(self):
        for row in rows_up_to(11) + great_rows() + [(200,), (1,) * 200, (100, 100), (99, 101), (10,) * 20]:
            text = show_row(row)
            self.assertEqual(text.split(" "), [str(entry) for entry in row])
            self.assertEqual(read_row(text), row)
            self.assertEqual([type(text), type(read_row(text))], [str, tuple])
            self.assertEqual({type(entry) for entry in read_row(text)}, {int})

    def test_all_short_texts(self):
        rows = {show_row(row): row for row in rows_up_to(12)}
        found = 0
        for size in range(6):
            for signs in itertools.product("012 ", repeat=size):
                text = "".join(signs)
                try:
                    row = read_row(text)
                except InvalidText:
                    # All its numbers are small ones, if it is a text: it would be the text of one of the rows.
                    self.assertNotIn(text, rows)
                else:
                    found += 1
                    self.assertEqual(show_row(row), text)
        self.assertGreater(found, 50)

    def test_sums_at_the_limit(self):
        for row in [(200,), (1, 199), (199, 1), (100, 100), (1,) * 200]:
            text = show_row(row)
            self.assertEqual(read_row(text), row)
            self.check_no_text(read_row, text + " 1")
            self.check_no_text(read_row, "1 " + text)
        for text in ["201", "1 200", "200 1", "100 101", "999", "1000", "9" * 50, "9" * 4000, "1" * 5000,
                     "9" * 100000, " ".join("1" * 201), " ".join("1" * 2000), "1 " + "0" * 3000 + "1"]:
            self.check_no_text(read_row, text)

    def test_other_texts(self):
        for text in ["", " ", "  ", " 1", "1 ", " 1 2", "1 2 ", "1  2", "1   2", "1 2  3", "0", "00", "01", "1 02",
                     "001", "1 0", "0 1", "1 0 2", "-1", "+1", "1 +2", "1 -2", "- 1", "1.0", "1,2", "1, 2", "1_0",
                     "1e1", "0x1", "one", "a", "1 a", "a 1", "1a", "(1, 2)", "[1]", "1*1", "1*2 3*1", "*", "1 *",
                     "True", "None", "1\n", "\n1", "1\n2", "1 \n2", "1\t2", "\t1", "1\r", "1\r\n", "\n", "'1'"]:
            self.check_no_text(read_row, text)

    def test_other_signs_at_each_place(self):
        for sign in OTHER_SIGNS:
            for text in ["1 2 3", "12"]:
                for place in range(len(text) + 1):
                    self.check_no_text(read_row, text[:place] + sign + text[place:])
                    self.check_no_text(read_row, text[:place] + sign + text[place + 1:])

    def test_values_of_other_kinds(self):
        for value in NO_TEXTS:
            self.check(InvalidText, lambda: read_row(value))

    def test_wrong_rows(self):
        for value in NO_ROWS:
            self.check(InvalidRow, lambda: show_row(value))


class RunsTextTest(TextCase):
    def test_runs_and_back(self):
        edges = [[(200, 1)], [(1, 200)], [(10, 20)], [(100, 2)], [(1, 1), (2, 1)] * 66 + [(1, 1)], [(1, 100), (100, 1)]]
        for runs in edges + [plain_runs(row) for row in rows_up_to(11) + great_rows()]:
            before = copy.deepcopy(runs)
            text = show_runs(runs)
            self.assertEqual(text.split(" "), [str(number) + "*" + str(length) for number, length in runs])
            found = read_runs(text)
            self.assertEqual([found, runs], [before, before])
            self.assertEqual([type(text), type(found)], [str, list])
            self.assertEqual({type(run) for run in found}, {tuple})
            self.assertEqual({type(value) for run in found for value in run}, {int})

    def test_all_short_texts(self):
        texts = {show_runs(plain_runs(row)) for row in rows_up_to(12)}
        found = 0
        for size in range(8):
            for signs in itertools.product("12* ", repeat=size):
                text = "".join(signs)
                try:
                    runs = read_runs(text)
                except InvalidText:
                    self.assertNotIn(text, texts)
                else:
                    found += 1
                    self.assertEqual(show_runs(runs), text)
        self.assertGreater(found, 20)

    def test_a_read_list_is_new(self):
        one = read_runs("2*3 1*5")
        one.append((9, 9))
        self.assertIsNot(read_runs("2*3 1*5"), read_runs("2*3 1*5"))
        self.assertEqual(read_runs("2*3 1*5"), [(2, 3), (1, 5)])

    def test_neighbouring_runs_of_one_number(self):
        for text in ["1*1 1*1", "3*2 3*1", "1*1 2*1 2*3", "2*2 2*2 1*1", "5*1 5*1 5*1"]:
            self.check_no_text(read_runs, text)
        self.assertEqual(read_runs("1*1 2*1 1*1"), [(1, 1), (2, 1), (1, 1)])

    def test_sums_at_the_limit(self):
        for text in ["200*1", "1*200", "10*20", "20*10", "100*2", "1*100 100*1", "100*1 1*100", "2*99 1*2"]:
            self.assertEqual(show_runs(read_runs(text)), text)
            self.check_no_text(read_runs, text + " 3*1")
            self.check_no_text(read_runs, "3*1 " + text)
        for text in ["201*1", "1*201", "3*67", "15*14", "100*2 1*1", "1*1 100*2", "9" * 50 + "*1", "1*" + "9" * 50,
                     "1*" + "9" * 5000, "9" * 5000 + "*1", "1*1 2*1 " * 67 + "1*1", "1*1 2*1 " * 600 + "1*1"]:
            self.check_no_text(read_runs, text)

    def test_other_texts(self):
        for text in ["", " ", "*", "1", "1 1", "1*", "*1", "**", "1**1", "1*1*1", "1*1*", "*1*1", "1 *1", "1* 1",
                     "1 * 1", "1*1 2", "2 1*1", "1*1 *", "* 1*1", " 1*1", "1*1 ", "1*1  2*1", "1*1 2*1 ", "0*1", "1*0",
                     "0*0", "01*1", "1*01", "1*1 02*1", "1*1 2*01", "-1*1", "1*-1", "+1*1", "1*+1", "1x1", "a*1", "1*a",
                     "1*1\n", "\n1*1", "1*1\n2*1", "1*1\t2*1", "1*1, 2*1", "1*1,2*1", "[(1, 1)]", "1.0*1", "1*1_0",
                     "1*1 2*1 3", "1*1 2*", "1*12*1", "\n", "1\n*1", "1*\n1"]:
            self.check_no_text(read_runs, text)

    def test_other_signs_at_each_place(self):
        for sign in OTHER_SIGNS:
            text = "1*2 3*1"
            for place in range(len(text) + 1):
                self.check_no_text(read_runs, text[:place] + sign + text[place:])
                self.check_no_text(read_runs, text[:place] + sign + text[place + 1:])

    def test_values_of_other_kinds(self):
        for value in NO_TEXTS:
            self.check(InvalidText, lambda: read_runs(value))

    def test_wrong_runs(self):
        for value in NO_RUNS:
            self.check(InvalidRuns, lambda: show_runs(value))

    def test_arguments_are_not_changed(self):
        runs = [(2, 1), (2, 3)]
        self.check(InvalidRuns, lambda: show_runs(runs))
        self.assertEqual(runs, [(2, 1), (2, 3)])
        value = ["1*1"]
        self.check(InvalidText, lambda: read_runs(value))
        self.check(InvalidText, lambda: read_row(value))
        self.assertEqual(value, ["1*1"])


if __name__ == "__main__":
    unittest.main()
