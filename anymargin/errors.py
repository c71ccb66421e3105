"""The errors that the package raises: one for each kind of failure."""


class MarginError(ValueError):
    """The base of the errors about values of a wrong form."""


class InvalidFraction(MarginError):
    """A value is not a fraction as it is asked for."""


class InvalidGraph(MarginError):
    """A value is not a graph."""


class InvalidReadings(MarginError):
    """A value is not the readings of the clocks."""


class InvalidClass(MarginError):
    """A value is not a class of readings."""


class InvalidZone(MarginError):
    """A value is not a zone, or not one that fits."""


class InvalidMachine(MarginError):
    """A value is not a machine."""


class InvalidRun(MarginError):
    """A value is not a run."""


class InvalidChain(MarginError):
    """A value is not a chain."""


class InvalidTable(MarginError):
    """A value is not a table."""


class InvalidLog(MarginError):
    """A value is not a log."""


class InvalidClaim(MarginError):
    """A value is not a claim."""


class InvalidOperation(MarginError):
    """An argument does not fit what is to be done."""


class ParseError(MarginError):
    """A text is wrong at a spot."""

    def __init__(self, spot):
        self.spot = spot


class InvalidNumber(IndexError):
    """A number is not within its bounds."""

    def __init__(self, given):
        self.given = given


class UnknownName(KeyError):
    """A name is not there."""

    def __init__(self, wanted):
        self.wanted = wanted


class TooMany(OverflowError):
    """There would be more than a limit lets."""

    def __init__(self, limit):
        self.limit = limit


class NothingToUndo(LookupError):
    """More is to be taken back than there is."""

    def __init__(self, wanted):
        self.wanted = wanted


class Refused(ArithmeticError):
    """What is asked for is not there, for the reason that is kept."""

    def __init__(self, reason):
        self.reason = reason
