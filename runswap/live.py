"""A row that can be changed step by step, and back again."""

from runswap.checks import is_integer, is_within
from runswap.cycles import nth_settled
from runswap.errors import Full, InvalidEntry, InvalidOperation, InvalidPlace, NothingToUndo
from runswap.rows import check_row
from runswap.turning import grouped, lengths_differ, spread, turned

# The first item of an operation, and how many items the operation has.
FORMS = {"swap": 1, "put": 3, "take": 2, "change": 3}


class LiveRow:
    """A live row. Its rows are tuples and never change, so each operation keeps the row before it for `undo`."""

    LIMIT = 200

    def __init__(self, row):
        check_row(row)
        self._row = row
        self._operations = []
        self._earlier = []

    @classmethod
    def of(cls, *numbers):
        """Return a live row of the arguments."""
        return cls(numbers)

    @classmethod
    def settled(cls, total, *, number=0):
        """Return a live row of the settled row with this sum and this number."""
        return cls(nth_settled(total, number))

    @property
    def row(self):
        """The present row."""
        return self._row

    @property
    def runs(self):
        """Its runs."""
        return grouped(self._row)

    @property
    def stands(self):
        """Whether it is settled."""
        return lengths_differ(grouped(self._row))

    def swap(self):
        """Play a round and return the new row."""
        self._become(spread(turned(grouped(self._row))), ("swap",))
        return self._row

    def put(self, place, number):
        """Insert an entry, which then has this place."""
        row = self._row
        if not is_within(place, 0, len(row)):
            raise InvalidPlace("place is not an integer from 0 to the number of entries")
        self._check_entry(number, sum(row))
        self._become(row[:place] + (number,) + row[place:], ("put", place, number))

    def take(self, place):
        """Remove the entry at a place and return it."""
        row = self._row
        self._check_place(place)
        if len(row) == 1:
            raise InvalidPlace("the only entry can't be removed")
        self._become(row[:place] + row[place + 1:], ("take", place))
        return row[place]

    def change(self, place, number):
        """Replace the entry at a place and return the old one."""
        row = self._row
        self._check_place(place)
        self._check_entry(number, sum(row) - row[place])
        self._become(row[:place] + (number,) + row[place + 1:], ("change", place, number))
        return row[place]

    def undo(self):
        """Revert the last operation that is not undone."""
        if not self._operations:
            raise NothingToUndo("there is no operation that is not undone")
        self._row = self._earlier.pop()
        self._operations.pop()

    def log(self):
        """Return the operations that are not undone."""
        return list(self._operations)

    def preview(self, *operations):
        """Return the row after operations as they are written in a log, without performing them."""
        for operation in operations:
            if not _is_operation(operation):
                raise InvalidOperation("not an operation as it is written in a log")
        trial = LiveRow(self._row)
        for operation in operations:
            trial._perform(operation)
        return trial._row

    def __len__(self):
        return len(self._row)

    def __eq__(self, other):
        if not isinstance(other, LiveRow):
            return False
        return self._row == other._row

    def _check_place(self, place):
        if not is_within(place, 0, len(self._row) - 1):
            raise InvalidPlace("the row has no such place")

    def _check_entry(self, number, others):
        """Raise an error unless the number can be an entry beside others with this sum."""
        if not is_integer(number) or number < 1:
            raise InvalidEntry("number is not an integer of at least 1")
        if others + number > self.LIMIT:
            raise Full("the sum would be greater than 200")

    def _become(self, row, operation):
        self._earlier.append(self._row)
        self._operations.append(operation)
        self._row = row

    def _perform(self, operation):
        word, *values = operation
        if word == "swap":
            self.swap()
        elif word == "put":
            self.put(*values)
        elif word == "take":
            self.take(*values)
        else:
            self.change(*values)


def _is_operation(value):
    """Tell whether any value is an operation as it is written in a log, whatever stands behind its first item."""
    if not isinstance(value, tuple) or len(value) == 0:
        return False
    word = value[0]
    return isinstance(word, str) and FORMS.get(word) == len(value)
