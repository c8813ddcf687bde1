"""What several files ask of their arguments."""

from runswap.errors import InvalidRounds

MOST_SUM = 200
MOST_ROUNDS = 10 ** 30


def is_integer(value):
    """Tell whether any value is an integer, which True and False are not."""
    return isinstance(value, int) and not isinstance(value, bool)


def is_within(value, low, high):
    """Tell whether any value is an integer from low to high."""
    return is_integer(value) and low <= value <= high


def check_rounds(rounds):
    if not is_within(rounds, 0, MOST_ROUNDS):
        raise InvalidRounds("rounds is not an integer from 0 to 10 ** 30")
