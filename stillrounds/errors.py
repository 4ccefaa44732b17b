"""The errors of the package, one for each kind of failure."""


class StillError(ValueError):
    """What all errors of the package have in common."""


class Unfit(StillError):
    """What was handed in does not fit the question."""


class BadBook(StillError):
    """No book: error is what book_error tells of it."""

    def __init__(self, error):
        self.error = error


class BadText(StillError):
    """No text of the kind that is read: line is the number of its first wrong line."""

    def __init__(self, line):
        self.line = line


class BadLog(StillError):
    """No log: place is where it first goes wrong."""

    def __init__(self, place):
        self.place = place


class Refused(StillError):
    """A deed that cannot be done when its turn comes."""

    def __init__(self, deed):
        self.deed = deed


class TooMany(StillError):
    """More than limit of what is counted."""

    def __init__(self, limit):
        self.limit = limit


class NothingToUndo(StillError):
    """No edit is there that could be undone."""


class NothingToRedo(StillError):
    """No edit was undone that could be done again."""


class TooManyEdits(StillError):
    """No further edit is taken."""
