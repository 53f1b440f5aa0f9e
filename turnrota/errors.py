"""The errors of the package: one class for each kind of failure."""


class TurnError(ValueError):
    """The base of all errors of this package."""


class InvalidRota(TurnError):
    """A rota cannot be made of what was passed: the parameter `word` is the first wrong one."""

    def __init__(self, word):
        self.word = word


class InvalidText(TurnError):
    """A text is no rota: its line `at` is the first one that is not of its form."""

    def __init__(self, at):
        self.at = at


class InvalidSeason(TurnError):
    """A season or a harm cannot be made of what was passed: the parameter `word` is the first wrong one."""

    def __init__(self, word):
        self.word = word


class InvalidMisses(TurnError):
    """These are no misses of the season: the thing with the index `at` is the first wrong one."""

    def __init__(self, at):
        self.at = at


class InvalidDays(TurnError):
    """These are no days of the ring: the thing with the index `at` is the first wrong one."""

    def __init__(self, at):
        self.at = at


class InvalidCommand(TurnError):
    """What was said to a desk has not the form of a command."""


class NoWheel(TurnError):
    """The `value` is no number of a wheel, or of a place, of the rota."""

    def __init__(self, value):
        self.value = value


class NoTurning(TurnError):
    """The wheel is not due to be turned on this `day` of the season."""

    def __init__(self, day):
        self.day = day


class NoFit(TurnError):
    """No misses go with what was seen, or these do not."""


class NoLot(TurnError):
    """No lot of misses that fit has the number `at`."""

    def __init__(self, at):
        self.at = at


class Refused(TurnError):
    """The `value` is no look of the season that a live cellar holds."""

    def __init__(self, value):
        self.value = value
