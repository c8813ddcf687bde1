"""The tables of the package hold what plain counts give."""

import unittest

from tests.tables import PACKAGE, table_files


class TablesTest(unittest.TestCase):
    def test_files_are_what_the_counts_give(self):
        files = table_files()
        for name, text in files.items():
            with self.subTest(name=name):
                # Compared as a truth: the difference of two long texts takes long to show.
                self.assertTrue((PACKAGE / name).read_text(encoding="utf-8") == text)
        runs = [name for name in files if name.startswith("run_counts_")]
        self.assertEqual(len(runs), 7)


if __name__ == "__main__":
    unittest.main()
