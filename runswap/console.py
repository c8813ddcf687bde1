"""A console: a live row and commands for it, as texts."""

from runswap.before import count_before
from runswap.counting import row_number
from runswap.errors import InvalidCommand
from runswap.live import LiveRow
from runswap.rows import row_after
from runswap.settling import meeting, rounds_needed, settled_pair
from runswap.texts import read_row, show_row, show_runs

MOST_DIGITS = 31


class Console:
    """A console holds a live row, at first none."""

    def __init__(self):
        self._live = None

    def say(self, command):
        """Execute a command and return what it tells."""
        if not isinstance(command, str) or "\n" in command:
            raise InvalidCommand("not a string without a newline")
        word, blank, text = command.partition(" ")
        if word == "row" and blank:
            self._live = LiveRow(read_row(text))
            return "ok"
        if word == "meet" and blank:
            return _meet(self._held(), text)
        _, *numbers = command.split(" ")
        form = (word, len(numbers))
        if form not in ACTIONS or not all([_is_number(number) for number in numbers]):
            raise InvalidCommand("not one of the commands")
        live = self._held()
        values = [int(number) for number in numbers]
        action = ACTIONS[form]
        return action(live, *values)

    def _held(self):
        if self._live is None:
            raise InvalidCommand("there is no live row")
        return self._live


def _is_number(word):
    """Tell whether the word has 1 to 31 decimal digits and no leading zeros."""
    if len(word) > MOST_DIGITS or not word.isascii() or not word.isdigit():
        return False
    return word == "0" or not word.startswith("0")


def _meet(live, text):
    rounds = meeting(live.row, read_row(text))
    return "none" if rounds is None else str(rounds)


def _swap(live):
    return show_row(live.swap())


def _put(live, place, number):
    live.put(place, number)
    return "ok"


def _take(live, place):
    return str(live.take(place))


def _change(live, place, number):
    return str(live.change(place, number))


def _undo(live):
    live.undo()
    return "ok"


def _show(live):
    return show_row(live.row)


def _runs(live):
    return show_runs(live.runs)


def _after(live, rounds):
    return show_row(row_after(live.row, rounds=rounds))


def _needed(live):
    return str(rounds_needed(live.row))


def _pair(live):
    first, second = settled_pair(live.row)
    return f"{show_row(first)} / {show_row(second)}"


def _before(live):
    return str(count_before(live.row))


def _number(live):
    return str(row_number(live.row))


# The commands but `row` and `meet`: the word, and how many numbers stand behind it.
ACTIONS = {
    ("swap", 0): _swap,
    ("put", 2): _put,
    ("take", 1): _take,
    ("change", 2): _change,
    ("undo", 0): _undo,
    ("show", 0): _show,
    ("runs", 0): _runs,
    ("after", 1): _after,
    ("needed", 0): _needed,
    ("pair", 0): _pair,
    ("before", 0): _before,
    ("number", 0): _number,
}
