"""The refusals: one class for each, all of them straight under RoyalError."""


class RoyalError(ValueError):
    """Any refusal of this program."""


class BadFraction(RoyalError):
    """A text that is not how any fraction is written."""


class Taken(RoyalError):
    """What is to be told has been told already."""


class NoName(RoyalError):
    """Nothing of the kind asked for has that name."""


class TooMuch(RoyalError):
    """A work's rows would give away more than comes in."""


class NoRate(RoyalError):
    """A currency has no worth on that day."""


class NoneLeft(RoyalError):
    """More of a work would be brought back than was left."""


class Endless(RoyalError):
    """Money would go round these names for ever."""

    def __init__(self, names):
        self.names = names


class BadRow(RoyalError):
    """The row of this number, counted from 0, is refused."""

    def __init__(self, row):
        self.row = row
