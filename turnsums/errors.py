"""The refusals, each with the one field `what`."""


class TurnError(ValueError):
    """Above all refusals."""

    def __init__(self, what):
        self.what = what


class NoInverse(TurnError):
    """No product with the number has the rest 1."""


class NotCoprime(TurnError):
    """What stands at the place has a divisor in common with one ahead of it."""


class BadGround(TurnError):
    """No ground can be made of the thing."""


class NoRoot(TurnError):
    """The ground has no root of the length."""


class NoShare(TurnError):
    """The worth can't be shared by the number."""


class BadLength(TurnError):
    """A row, or a plan, isn't as long as it must be."""


class BadText(TurnError):
    """No plan has the text."""


class BadStep(TurnError):
    """What is unsplit can't be split by the part."""


class NotDone(TurnError):
    """What the deed needs wasn't done, or it can't be done any more."""


class TooSmall(TurnError):
    """The primes' product doesn't go beyond the reach."""


class BadOrder(TurnError):
    """The directions don't stand there once each."""


class NotEven(TurnError):
    """The row isn't even at the place, or its length isn't."""


class NotKept(TurnError):
    """The book keeps no plan of the length."""


class BadDeed(TurnError):
    """What stands at the place is no deed."""


class BadLine(TurnError):
    """The row of the text isn't written as it must be."""
