"""The refusals of the program, each a class of its own straight under FarError."""


class FarError(ValueError):
    """Any refusal of the program."""


class NoQuotient(FarError):
    """A top and a below that make no quotient."""


class Pole(FarError):
    """A quotient that has no value at the place asked for."""


class TooShort(FarError):
    """A row with too few places for the heights asked for."""


class BadRow(FarError):
    """A row of a sheet that isn't written as it must be, or can't stand where it does."""

    def __init__(self, row):
        FarError.__init__(self, f"row {row} can't be read")
        self.row = row
