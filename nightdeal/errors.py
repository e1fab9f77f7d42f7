"""The refusals: one class for each kind, all of them right under DealError."""


class DealError(ValueError):
    """Any refusal."""


class BadNumber(DealError):
    """What is no whole number, or out of its bounds."""


class BadStretches(DealError):
    """What are no stretches."""


class BadMark(DealError):
    """What is no mark."""


class BadSky(DealError):
    """What is no sky."""


class BadWish(DealError):
    """What is no wish."""


class BadBook(DealError):
    """What is no book."""


class BadText(DealError):
    """What is no text (line None), or no book's text from the row `line` on."""

    def __init__(self, line=None):
        super().__init__("this is no text of a book")
        self.line = line


class NoSuch(DealError):
    """What isn't there."""


class BadLook(DealError):
    """What is no row of looks: `at` is the place of the first that is none."""

    def __init__(self, at=0):
        super().__init__("this is no row of looks")
        self.at = at


class BadDeed(DealError):
    """What a season can't do."""


class TooGreat(DealError):
    """What is too much to go through."""
