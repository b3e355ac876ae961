"""The errors of the package: one class for each kind of failure."""


class ClockError(ValueError):
    """The base class of all errors of the package."""


class BadClock(ClockError):
    """A value that is no clock; part is the word for what is wrong first."""

    def __init__(self, part):
        ClockError.__init__(self, f"no clock: its {part} is wrong")
        self.part = part


class BadWheel(ClockError):
    """A wheel that isn't there, or two wheels that are one."""


class BadEdition(ClockError):
    """An edition that the wheel doesn't have."""


class BadTick(ClockError):
    """A tick that is no integer, or beyond the limits."""


class BadPlan(ClockError):
    """A value that is no plan; wheel is the first wrong one, None if it is no tuple of one thing for each wheel."""

    def __init__(self, wheel):
        ClockError.__init__(self, f"no plan: the first wrong wheel is {wheel}")
        self.wheel = wheel


class BadExchange(ClockError):
    """A value that is no exchange of the clock."""


class NotLeaning(ClockError):
    """Two exchanges of which the one doesn't lean on the other."""


class BadRow(ClockError):
    """A value that is no step row."""


class NotAlike(ClockError):
    """Two step rows of unlike lengths."""


class BadNumber(ClockError):
    """A number that is no integer, or beyond the limits."""


class NoPlan(ClockError):
    """A clock that has no right plan, where one is asked for."""


class BadChoice(ClockError):
    """A choice that is neither True nor False."""


class BadStanding(ClockError):
    """A value that isn't a tuple of an edition for each wheel."""


class BadStep(ClockError):
    """An exchange that the moment doesn't allow."""


class TooMany(ClockError):
    """More of something than is allowed; most is how many are."""

    def __init__(self, most):
        ClockError.__init__(self, f"more than {most}")
        self.most = most


class BadPrices(ClockError):
    """A value that isn't a tuple of prices for each exchange."""


class BadOrder(ClockError):
    """A value that is no order, or no choice, of wheels."""


class BadString(ClockError):
    """A value that is no string of the kind that is asked for."""


class BadLine(ClockError):
    """A text that can't be read; line and word, from 1, are the place."""

    def __init__(self, line, word):
        ClockError.__init__(self, f"line {line}, word {word}")
        self.line = line
        self.word = word


class BadPhase(ClockError):
    """A phase that the clock doesn't have."""


class NotSure(ClockError):
    """A moment from which the end isn't sure."""


class BadWatch(ClockError):
    """A value that is no watch of the clock."""


class BadNews(ClockError):
    """A value that isn't news of the clock."""


class BadTolls(ClockError):
    """A value that isn't a tuple of tolls for each wheel."""


class BadRatio(ClockError):
    """A value that is no ratio of the kind that is asked for."""


class BadDuty(ClockError):
    """A value that is no duty of a crew."""
