"""The refusals: each class straight beneath CourtError, none beneath another."""


class CourtError(ValueError):
    """What all refusals are."""


class NoRow(CourtError):
    """A number is no row's."""


class TooMany(CourtError):
    """The looks have too many outcomes for seeking."""


class Changes(CourtError):
    """A move would change what is told of a value, kept as `value`."""

    def __init__(self, value):
        # A fixed text: a value may be too deep or too long to be shown.
        CourtError.__init__(self, "the move changes what is told of a value")
        self.value = value


class NoMerge(CourtError):
    """Rows can't be merged, or a row can't be parted."""


class NoText(CourtError):
    """A thing is not the text that is read."""


class NoName(CourtError):
    """No cases stand under a name."""


class NoDeed(CourtError):
    """What is asked of the desk can't be done."""
