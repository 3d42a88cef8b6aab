"""The refusals: each is a JoinError, and of no other class beside it."""


class JoinError(ValueError):
    """Any refusal."""


class BadSize(JoinError):
    """A web of so many points there is not."""


class BadPoint(JoinError):
    """What is handed in is no point, or no points, of the web."""


class Twice(JoinError):
    """The tie is there already."""


class NoTie(JoinError):
    """The tie is not there."""


class TooMany(JoinError):
    """The web has as many points as a web can have."""


class NoTree(JoinError):
    """The web has no tree, as `row` shows: a row of that web."""

    def __init__(self, row):
        self.row = row


class BadTree(JoinError):
    """What is handed in is no tree, or none that will do."""


class BadText(JoinError):
    """What is handed in is not the text of a tree."""
