"""The errors of the package, each of them directly under LateError."""


class LateError(ValueError):
    """The base of all errors."""


class InvalidHistory(LateError):
    """A value is no history, or an event cannot stand where it is."""


class InvalidPosition(LateError):
    """A value is no position of a history."""


class InvalidOrder(LateError):
    """A value is no order, or not one of the orders that are asked for."""


class InvalidMoment(LateError):
    """A value is no moment of an order."""


class InvalidPolls(LateError):
    """A value is no list of polls."""


class InvalidId(LateError):
    """A value is no id, or not one of the ids that are asked for."""


class InvalidIds(LateError):
    """A value is no list of ids."""


class InvalidNumber(LateError):
    """A value is no integer, or one out of range."""


class InvalidLog(LateError):
    """A value is no log."""


class InvalidLogs(LateError):
    """A value is no list of logs."""


class InvalidPoll(LateError):
    """A value is no poll of some logs."""


class InvalidCounts(LateError):
    """A value is no list of counts."""


class InvalidRound(LateError):
    """A value is no round."""


class InvalidName(LateError):
    """A value is no name of a reader."""


class InvalidCommand(LateError):
    """A value is no row for the console."""


class NothingToUndo(LateError):
    """No call is left that could be reverted."""


class NotPossible(LateError):
    """An id, the row, makes impossible what is asked for."""

    def __init__(self, row):
        self.row = row


class NoFit(LateError):
    """What the reader with this number got does not fit the ids."""

    def __init__(self, reader):
        self.reader = reader


class InvalidText(LateError):
    """A value is no text: its word at the position is wrong, or it is no string."""

    def __init__(self, position):
        self.position = position


class TooLarge(LateError):
    """A call would exceed the limit."""

    def __init__(self, limit):
        self.limit = limit
