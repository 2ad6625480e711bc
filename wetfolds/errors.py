"""The errors of this package."""


class FoldError(ValueError):
    """The base class of all errors of this package."""


class InvalidStrip(FoldError):
    """A value is no strip that can be handed in."""


class InvalidCrease(FoldError):
    """A value is no crease."""


class InvalidFolds(FoldError):
    """A value is no row of folds."""


class InvalidPlace(FoldError):
    """A value is no place that can be handed in."""


class InvalidNumber(FoldError):
    """A value is no integer within its limits."""


class TooMany(FoldError):
    """There is more of something than a limit."""

    def __init__(self, limit):
        FoldError.__init__(self, f"more than {limit}")
        self.limit = limit


class InvalidText(FoldError):
    """A string is no text of a strip or of a row, from an index on."""

    def __init__(self, at):
        FoldError.__init__(self, f"no such text, from index {at} on")
        self.at = at


class InvalidForm(FoldError):
    """A value is no form of rows."""


class NoFolds(FoldError):
    """A row has no fold, where one is needed."""


class InvalidIndex(FoldError):
    """A value is no index of a row of a form."""


class InvalidMove(FoldError):
    """A value is no move of a row."""


class InvalidStretch(FoldError):
    """Two or three values tell no stretch."""


class InvalidSteps(FoldError):
    """A value is no told steps."""


class InvalidPrime(FoldError):
    """A value is none of the primes 2, 3, 5 and 7."""


class InvalidLot(FoldError):
    """A value is no lot."""


class EmptyLot(FoldError):
    """A lot has no place, where one is needed."""


class NotInked(FoldError):
    """A place does not stand in a lot."""


class InvalidRing(FoldError):
    """A value is no ring drops of a size."""


class InvalidLength(FoldError):
    """A value is no length of a paper."""


class InvalidSheet(FoldError):
    """A value is no sheet that can be handed in."""


class InvalidSheetRow(FoldError):
    """A value is no row of creases of sheets."""


class InvalidSpot(FoldError):
    """A value is no spot of a sheet."""


class InvalidTime(FoldError):
    """A value is no time in which ink dries."""


class InvalidLots(FoldError):
    """Two values are no middles and shifts."""


class InvalidPrints(FoldError):
    """A value is no tuple of prints."""


class InvalidLog(FoldError):
    """A value is no log."""


class NothingToUndo(FoldError):
    """There is no deed to take back."""


class NothingToRedo(FoldError):
    """There is no deed to do again."""
