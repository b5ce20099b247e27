"""The errors of the program; each keeps in `value` the very thing that it was given."""


class BookError(ValueError):
    """The base of all errors of the program."""

    def __init__(self, value):
        """Keep what the error is about."""
        self.value = value


class InvalidBase(BookError):
    """A base that is not 2, 3 or 4."""


class InvalidName(BookError):
    """A name that is not one letter, that occurred before, or that there is not."""


class InvalidFormula(BookError):
    """A named row with too few or too many formulas, or with a term of an unknown name."""


class Unsound(BookError):
    """A named row whose start is not what its formula for the figure 0 makes."""


class InvalidNumber(BookError):
    """A place, a number or a count that is out of its bounds."""


class InvalidStretch(BookError):
    """A stretch of places that ends before it begins."""


class InvalidRest(BookError):
    """A remainder that the modulus never leaves."""


class InvalidFigure(BookError):
    """A figure that the base does not have, or a block without figures."""


class UnlikeBases(BookError):
    """Two bases that should be one."""


class TooWide(BookError):
    """A row of too great a rank for a small shelf."""


class NothingToUndo(BookError):
    """A shelf without a call that could be taken back."""


class Unreadable(BookError):
    """A text that no book or no row has."""
