"""The errors of the package."""


class RowError(ValueError):
    """The base of all errors of the package."""


class InvalidRow(RowError):
    """A value is not a row."""


class InvalidRuns(RowError):
    """A value is not the runs of a row."""


class InvalidRounds(RowError):
    """A value is not an allowed number of rounds."""


class InvalidTotal(RowError):
    """A value is not an allowed sum of a row."""


class InvalidNumber(RowError):
    """There is no row with this number."""


class InvalidRunCount(RowError):
    """A value is not an allowed number of runs."""


class NotSettled(RowError):
    """A row is not settled."""


class NotStill(RowError):
    """A row is not still."""


class InvalidBlocks(RowError):
    """A value is not blocks."""


class InvalidPlace(RowError):
    """A value is not a place of the row."""


class InvalidEntry(RowError):
    """A value is not an allowed entry."""


class InvalidIndex(RowError):
    """A value is not an allowed index."""


class Full(RowError):
    """The sum of a live row would be too great."""


class NothingToUndo(RowError):
    """A live row has no operation to undo."""


class InvalidOperation(RowError):
    """A value is not an operation of a live row."""


class InvalidText(RowError):
    """A value is not the text of a row or of runs."""


class InvalidCommand(RowError):
    """A value is not a command of the console."""
