"""The texts of rows and of runs."""

from runswap.errors import InvalidText
from runswap.rows import check_row, check_runs, is_row, is_runs

# For each 1 of the sum an entry takes at most two signs, a run at most four: no text of a row or of runs is longer.
MOST_SIGNS = 800


def show_row(row):
    """Return the text of a row."""
    check_row(row)
    return _row_text(row)


def read_row(text):
    """Return the row with this text."""
    if _is_short(text) and text.replace(" ", "").isdigit():
        row = tuple(map(int, text.split()))
        # What is read is shown again: this refuses leading zeros and spaces that are not single ones between words.
        if is_row(row) and _row_text(row) == text:
            return row
    raise InvalidText("not the text of a row")


def show_runs(runs):
    """Return the text of the runs of a row."""
    check_runs(runs)
    return _runs_text(runs)


def read_runs(text):
    """Return the runs with this text."""
    if _is_short(text):
        runs = _runs_read(text.split())
        if is_runs(runs) and _runs_text(runs) == text:
            return runs
    raise InvalidText("not the text of the runs of a row")


def _runs_read(words):
    """Return runs with these words, or None if a word is no word of a run."""
    runs = []
    for word in words:
        number, _, length = word.partition("*")
        if not number.isdigit() or not length.isdigit():
            return None
        runs.append((int(number), int(length)))
    return runs


def _row_text(row):
    return " ".join(map(str, row))


def _runs_text(runs):
    return " ".join([f"{number}*{length}" for number, length in runs])


def _is_short(text):
    """Tell whether any value is a string that is short enough for a text and has no signs beyond ASCII."""
    return isinstance(text, str) and len(text) <= MOST_SIGNS and text.isascii()
