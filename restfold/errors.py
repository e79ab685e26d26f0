"""Every refusal of Restfold."""


class FoldError(ValueError):
    """Any refusal."""


class BadClock(FoldError):
    """What should be a clock, or an hour of one, is none."""


class BadTurn(FoldError):
    """What should be a turn is none."""


class NoClock(FoldError):
    """No clock of the wall has this number."""


class TooMany(FoldError):
    """The wall has no room for this."""


class BadWall(FoldError):
    """What should be a wall is none."""


class Never(FoldError):
    """The clocks of a wall meet at no turn; one and other are the numbers of two that don't agree."""

    def __init__(self, one, other):
        super().__init__(f"clocks {one} and {other} never meet")
        self.one = one
        self.other = other


class BadText(FoldError):
    """A text is no wall's; row is the number of the first row that can't stand there, 0 of what is no text."""

    def __init__(self, row):
        super().__init__(f"row {row} can't stand there")
        self.row = row
