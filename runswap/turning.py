"""Rounds played on runs instead of entries; nothing here checks its arguments."""


def grouped(row):
    """Return the runs of a row."""
    runs = []
    number = row[0]
    length = 0
    for entry in row:
        if entry == number:
            length += 1
        else:
            runs.append((number, length))
            number = entry
            length = 1
    runs.append((number, length))
    return runs


def spread(runs):
    """Return the row with these runs."""
    row = []
    for number, length in runs:
        row.extend([number] * length)
    return tuple(row)


def turned(runs):
    """Return the runs after one round."""
    later = []
    number = runs[0][1]
    length = 0
    for old_number, old_length in runs:
        if old_length == number:
            length = length + old_number
        else:
            later.append((number, length))
            number = old_length
            length = old_number
    later.append((number, length))
    return later


def lengths_differ(runs):
    """Tell whether neighbouring runs have different lengths."""
    before = 0
    for _, length in runs:
        if length == before:
            return False
        before = length
    return True


def lengths_are_numbers(runs):
    """Tell whether each run has a length that is equal to its number."""
    for number, length in runs:
        if number != length:
            return False
    return True


def runs_after(runs, rounds):
    """Return the runs after any number of rounds."""
    left = rounds
    while left > 0 and not lengths_differ(runs):
        runs = turned(runs)
        left -= 1
    # From the first settled row on two rows alternate, so an even number of rounds changes nothing.
    if left % 2 == 1:
        return turned(runs)
    return runs
