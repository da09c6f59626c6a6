"""The errors of the package."""


class StrokeError(ValueError):
    """The base class of all errors of the package."""


class BadPicture(StrokeError):
    """A value is no picture."""


class BadLine(StrokeError):
    """A value is no line of the board."""


class BadStrokes(StrokeError):
    """A value is no list of lines of the board."""


class BadNumber(StrokeError):
    """A value is no integer, or one outside of its limits."""


class NotText(StrokeError):
    """A value is no string."""


class InvalidText(StrokeError):
    """A text cannot be read from a place on, counted from 1."""

    def __init__(self, place):
        self.place = place


class UnknownName(StrokeError):
    """A call has no definition."""

    def __init__(self, name):
        self.name = name


class WrongCount(StrokeError):
    """A call has more or fewer expressions than its definition has arguments."""

    def __init__(self, name):
        self.name = name


class MayBeUnset(StrokeError):
    """A name is used that may be unset."""

    def __init__(self, name):
        self.name = name


class BadCode(StrokeError):
    """A value is no code."""


class BadEffect(StrokeError):
    """A value is no effect in normal form."""


class BadGoals(StrokeError):
    """A value is no tuple of goals."""


class OtherBoard(StrokeError):
    """Two pictures have boards of unlike sizes."""


class NotBlind(StrokeError):
    """A program looks at the board where it may not."""


class NotDone(StrokeError):
    """A run ends otherwise than it has to."""

    def __init__(self, end):
        self.end = end


class BadLog(StrokeError):
    """A value is no log, or two logs do not go together."""


class BadSite(StrokeError):
    """A value is no site, or no counts of the sites."""


class TooGreat(StrokeError):
    """A board is greater than the most that is worked on."""

    def __init__(self, most):
        self.most = most


class TooMany(StrokeError):
    """More things would have to be told than the most that are told."""

    def __init__(self, most):
        self.most = most


class NothingToUndo(StrokeError):
    """A machine has done no order that could be taken back."""
