"""Rounds played on runs instead of entries; nothing here checks its arguments."""


def merged(pairs):
    """Return the runs of what the pairs (number, length) stand for, one behind the other."""
    runs = []
    for number, length in pairs:
        if runs and runs[-1][0] == number:
            runs[-1] = (number, runs[-1][1] + length)
        else:
            runs.append((number, length))
    return runs


def spread(runs):
    """Return the row with these runs."""
    return tuple([number for number, length in runs for _ in range(length)])


def turned(runs):
    """Return the runs after one round."""
    return merged([(length, number) for number, length in runs])


def lengths_differ(runs):
    """Tell whether neighbouring runs have different lengths."""
    return all([runs[k][1] != runs[k + 1][1] for k in range(len(runs) - 1)])


def runs_after(runs, rounds):
    """Return the runs after any number of rounds."""
    left = rounds
    while left > 0 and not lengths_differ(runs):
        runs = turned(runs)
        left -= 1
    # From the first settled row on two rows alternate, so an even number of rounds changes nothing.
    if left % 2 == 1:
        return turned(runs)
    return list(runs)
