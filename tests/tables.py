"""Writes the tables of the package: `python3 -m tests.tables`, from the top of the repository.

All their numbers are counted by the plain counts of tests/plain.py. test_tables.py checks that the files are what is
written here.
"""

import pathlib

from tests.plain import different_counts, run_counts_of_sums, settled_counts, still_counts

PACKAGE = pathlib.Path(__file__).resolve().parent.parent / "runswap"
TOTAL = 200
WIDTH = 118
MOST_LINES = 390
# Sums up to this one have tables by first numbers.
SHORT = 12
BASE = 52
ZERO = 40

COUNTS = '''"""Numbers that take long to count, as tables: item s is for the sum s, from 0 to 200. The tests count them anew.

DIFFERENT: in how many ways the sum can be written as numbers of which no neighbours are equal, the order counted.
DIFFERENT_BEGUN: in how many of these ways the first number is 1, is 2 and so on; for the sums up to 12.
STILL: how many still rows there are.
"""
'''
SETTLED = '''"""Numbers of settled rows as tables: item s is for the sum s, from 0 to 200. The tests count them anew.

SETTLED: of all settled rows. BEGUN_1 to BEGUN_6: of those that begin with the number 1, or 2 and so on.
"""
'''
MORE_SETTLED = '''"""More numbers of settled rows, as in settled_counts.py: of those that begin with the number 7, or 8 and so on."""
'''
RUNS = '''"""The numbers of rows by runs for the sums from {first} to {last}, written as run_counts.py says."""
'''


def written(name, items):
    """A tuple of these texts, as it stands in a file."""
    lines = ["   "]
    for item in items:
        if len(lines[-1]) + len(item) + 2 > WIDTH:
            lines.append("   ")
        lines[-1] += f" {item},"
    return f"{name} = (\n" + "\n".join(lines) + "\n)\n"


def numbers(name, values):
    return written(name, [str(value) for value in values])


def counts_file():
    ends = different_counts(TOTAL)
    counts = [sum(by_last.values()) for by_last in ends]
    # Read from its end, a way that ends with a number begins with it.
    begun = [str(tuple(by_last[last] for last in range(1, part + 1))) for part, by_last in enumerate(ends[:SHORT + 1])]
    return "\n".join([COUNTS, numbers("DIFFERENT", counts), written("DIFFERENT_BEGUN", begun),
                      numbers("STILL", still_counts(TOTAL))])


def settled_files():
    counts, by_last, _ = settled_counts(TOTAL)
    begun = [numbers(f"BEGUN_{number}", [by_last[part][number] for part in range(TOTAL + 1)]) for number in range(1, 14)]
    return ["\n".join([SETTLED, numbers("SETTLED", counts)] + begun[:6]), "\n".join([MORE_SETTLED] + begun[6:])]


def word(number):
    signs = []
    while number:
        number, digit = divmod(number, BASE)
        signs.append(chr(ZERO + digit))
    return "".join(reversed(signs))


def lines_of(counts):
    """The lines that hold the numbers of rows by runs with one sum."""
    while counts[-1] == 0:
        counts.pop()
    text = " ".join(word(count) for count in counts[1:])
    pieces = [text[start:start + 108] for start in range(0, len(text), 108)]
    if len(pieces) == 1:
        return [f'    ("{text}",),']
    return ["    ("] + [f'        "{piece}",' for piece in pieces] + ["    ),"]


def run_files():
    found = []
    first = 1
    lines = []
    for total, counts in enumerate(run_counts_of_sums(TOTAL)):
        more = lines_of(counts) if total > 0 else []
        if len(lines) + len(more) > MOST_LINES - 2:
            found.append((first, total - 1, lines))
            first = total
            lines = []
        lines = lines + more
    found.append((first, TOTAL, lines))
    return [RUNS.format(first=first, last=last) + f"\nROWS_{place} = (\n" + "\n".join(lines) + "\n)\n"
            for place, (first, last, lines) in enumerate(found, 1)]


def table_files():
    """The texts of the files with tables, by their names."""
    first, second = settled_files()
    files = {"counts.py": counts_file(), "settled_counts.py": first, "settled_counts_more.py": second}
    for place, text in enumerate(run_files(), 1):
        files[f"run_counts_{place}.py"] = text
    return files


def write():
    for name, text in table_files().items():
        (PACKAGE / name).write_text(text, encoding="utf-8")


if __name__ == "__main__":
    write()
