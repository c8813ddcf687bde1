"""Long rows, given in blocks: rows of 10 ** 30 entries and more."""

from runswap.chain import played
from runswap.checks import MOST_ROUNDS, check_rounds, is_integer
from runswap.errors import InvalidBlocks, InvalidEntry, InvalidIndex, InvalidPlace
from runswap.turning import turned

MOST_BLOCKS = 200
# The greatest number and the greatest length of a block.
GREATEST = 10 ** 28


def is_blocks(value):
    """Tell whether any value is blocks."""
    if not isinstance(value, tuple) or not 1 <= len(value) <= MOST_BLOCKS:
        return False
    for block in value:
        if not isinstance(block, tuple) or len(block) != 2:
            return False
        number, length = block
        # As for rows, nearly all integers pass the first, quick question.
        if type(number) is not int and not is_integer(number):
            return False
        if type(length) is not int and not is_integer(length):
            return False
        if not 1 <= number <= GREATEST or not 1 <= length <= GREATEST:
            return False
    return True


def check_blocks(blocks):
    if not is_blocks(blocks):
        raise InvalidBlocks("not a tuple of 1 to 200 tuples of a number and a length from 1 to 10 ** 28")


def check_entry(number):
    if not is_integer(number):
        raise InvalidEntry("number is not an integer")


def is_from_zero(value):
    return is_integer(value) and value >= 0


def long_after(blocks, *, rounds=1):
    """Return the runs of the long row after so many rounds, 0 to 10 ** 30."""
    check_blocks(blocks)
    check_rounds(rounds, MOST_ROUNDS)
    return tuple(_runs_after(blocks, rounds))


def _runs_of(blocks):
    """Return the runs of the long row: neighbouring blocks may have the same number."""
    # Turning joins what has the same length, so it is played on the blocks with number and length exchanged.
    return turned([(length, number) for number, length in blocks])


def _runs_after(blocks, rounds):
    runs, count = played(_runs_of(blocks), rounds)
    # From the first settled row on two rows alternate, so an even number of rounds changes nothing.
    if (rounds - count) % 2 == 1:
        return turned(runs)
    return runs


def long_needed(blocks):
    """Return the least number of rounds after which neighbouring runs have different lengths."""
    check_blocks(blocks)
    # Each round before joins two runs at least.
    _, rounds = played(_runs_of(blocks), len(blocks))
    return rounds


def long_entry(blocks, place, *, rounds=1):
    """Return the entry at a place after so many rounds."""
    check_blocks(blocks)
    check_rounds(rounds, MOST_ROUNDS)
    if not is_from_zero(place):
        raise InvalidPlace("place is not an integer of at least 0")
    end = 0
    for number, length in _runs_after(blocks, rounds):
        end = end + length
        if place < end:
            return number
    raise InvalidPlace("the row has no such place after these rounds")


def long_count(blocks, number, *, rounds=1):
    """Return how many entries are equal to an integer after so many rounds."""
    check_blocks(blocks)
    check_entry(number)
    check_rounds(rounds, MOST_ROUNDS)
    return sum([length for found, length in _runs_after(blocks, rounds) if found == number])


def long_find(blocks, number, index, *, rounds=1):
    """Return the place of the entry with this index among those equal to an integer after so many rounds, or None."""
    check_blocks(blocks)
    check_entry(number)
    if not is_from_zero(index):
        raise InvalidIndex("index is not an integer of at least 0")
    check_rounds(rounds, MOST_ROUNDS)
    start = 0
    left = index
    for found, length in _runs_after(blocks, rounds):
        if found == number:
            if left < length:
                return start + left
            left -= length
        start = start + length
    return None
