"""The errors of the package, each directly under ConflateError."""


class ConflateError(ValueError):
    """The base of all errors of the package."""


class InvalidKey(ConflateError):
    """A value is not a key."""


class InvalidLog(ConflateError):
    """A value is not a log, or not a counted log, as the function needs it."""


class InvalidRun(ConflateError):
    """A value is not a run, or not even a list of events."""


class InvalidWrites(ConflateError):
    """A value is not a list of written keys, or the list is too long."""


class InvalidItem(ConflateError):
    """A value is not the number of an item that the function accepts."""


class InvalidOrder(ConflateError):
    """A value is not an order, or not a list of all item numbers."""


class InvalidChain(ConflateError):
    """A value is not a chain."""


class InvalidLogs(ConflateError):
    """A value is not a list of at least one counted log."""


class InvalidWrite(ConflateError):
    """A value is not a write that the function accepts."""


class InvalidCut(ConflateError):
    """A value is not a cut of the logs."""


class InvalidNumber(ConflateError):
    """A value is not an integer in the range that the function accepts."""


class InvalidMirror(ConflateError):
    """A value is not the number of a mirror."""


class InvalidCommand(ConflateError):
    """A value is not a row that the console knows."""


class NothingToSend(ConflateError):
    """No key waits in the queue of the mirror."""


class NothingToUndo(ConflateError):
    """There is no call left that can be reverted."""


class Inconsistent(ConflateError):
    """No source can show the logs; `ring` proves it."""

    def __init__(self, ring):
        super().__init__("no source can show these logs")
        self.ring = ring


class InvalidText(ConflateError):
    """A text is wrong at the word `position`; None if it is not a string."""

    def __init__(self, position):
        super().__init__("not a text of this kind")
        self.position = position


class TooLarge(ConflateError):
    """There is more of something than `limit`."""

    def __init__(self, limit):
        super().__init__("more than the function takes")
        self.limit = limit
