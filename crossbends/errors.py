"""The refusals: one class for each kind, all straight beneath OrderError."""


class OrderError(ValueError):
    """Any refusal."""


class BadCount(OrderError):
    """The number of unknowns or of things is none."""


class BadPowers(OrderError):
    """Powers that are none."""


class TooGreat(OrderError):
    """A weight above the greatest one."""


class BadOrder(OrderError):
    """An order that is none."""


class OtherCount(OrderError):
    """Not of as many things."""


class BadCode(OrderError):
    """A code that is none."""


class BadWord(OrderError):
    """A word that is none."""


class TooMany(OrderError):
    """More than are told."""


class OtherOrder(OrderError):
    """Two words that make unlike orders."""


class BadPlace(OrderError):
    """A place that is none."""


class BadDrawing(OrderError):
    """A drawing that is none."""


class BadShifts(OrderError):
    """Shifts that are none."""


class NoText(OrderError):
    """A text that is not one of what is read."""


class NoLine(OrderError):
    """A line of no known form."""


class BadName(OrderError):
    """A name that is not made as names are."""


class NoName(OrderError):
    """A name that stands for nothing."""


class Spare(OrderError):
    """A word or a drawing that is not short; place is which of those handed in."""

    def __init__(self, place):
        self.place = place


class OutOfStair(OrderError):
    """A polynomial not beneath the stair; powers is its greatest term that is not."""

    def __init__(self, powers):
        self.powers = powers
