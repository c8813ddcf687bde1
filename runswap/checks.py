"""What several files ask of their arguments."""

from runswap.errors import InvalidNumber, InvalidRounds, InvalidTotal

MOST_SUM = 200
MOST_ROUNDS = 10 ** 30


def is_integer(value):
    """Tell whether any value is an integer, which True and False are not."""
    return isinstance(value, int) and not isinstance(value, bool)


def is_within(value, low, high):
    """Tell whether any value is an integer from low to high."""
    return is_integer(value) and low <= value <= high


def check_rounds(rounds, most):
    if not is_within(rounds, 0, most):
        raise InvalidRounds("rounds is not an integer from 0 to its limit")


def check_total(total):
    if not is_within(total, 1, MOST_SUM):
        raise InvalidTotal("total is not an integer from 1 to 200")


def check_number(number, count):
    """Raise an error unless one of so many rows, numbered from 0, has this number."""
    if not is_within(number, 0, count - 1):
        raise InvalidNumber("there is no row with this number")
