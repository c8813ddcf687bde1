"""The numbers of rows by runs, for all sums up to 200: more than can be counted at each call.

They stand in the tables of run_counts_1.py to run_counts_7.py, a text for each sum, cut into pieces that fit into a
line. The words of the text are for 1 run, 2 runs and so on. A word is a number in the base 52, the highest digit
first; the digit 0 is `(`, and the others are the characters that follow it in ASCII. The tests count all numbers anew.
"""

from runswap.run_counts_1 import ROWS_1
from runswap.run_counts_2 import ROWS_2
from runswap.run_counts_3 import ROWS_3
from runswap.run_counts_4 import ROWS_4
from runswap.run_counts_5 import ROWS_5
from runswap.run_counts_6 import ROWS_6
from runswap.run_counts_7 import ROWS_7

BASE = 52
# The character code of the digit 0.
ZERO = 40


def rows_by_runs(total, runs):
    """Return the number of rows with this sum and so many runs."""
    words = "".join(_pieces(total)).split(" ")
    # A row with more runs has a greater sum.
    if runs > len(words):
        return 0
    number = 0
    for sign in words[runs - 1]:
        number = number * BASE + ord(sign) - ZERO
    return number


def _pieces(total):
    left = total - 1
    for table in (ROWS_1, ROWS_2, ROWS_3, ROWS_4, ROWS_5, ROWS_6):
        if left < len(table):
            return table[left]
        left -= len(table)
    return ROWS_7[left]
