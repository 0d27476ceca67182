"""The errors of the package; `value` tells what was wrong."""


class GrowthError(ValueError):
    """What all errors of the package have in common."""

    def __init__(self, value):
        self.value = value


class InvalidPrime(GrowthError):
    """A prime other than 2, 3 and 5."""


class InvalidTerm(GrowthError):
    """The number of a wrong term of a rule, None for no terms at all."""


class InvalidRow(GrowthError):
    """The number of a wrong tuple of a row."""


class InvalidNumber(GrowthError):
    """A number that is too small, or an index that nothing has."""


class InvalidValue(GrowthError):
    """A value that no cell, or no cell that is not 0, can have."""


class InvalidStretch(GrowthError):
    """The tuple (low, high) of a stretch that ends before it begins."""


class InvalidSeen(GrowthError):
    """The number of a wrong tuple among seen cells."""


class UnlikePrimes(GrowthError):
    """The tuple of two primes that should have been the same."""


class TooFar(GrowthError):
    """The steps that a field would have made, more than it may."""


class NothingToUndo(GrowthError):
    """A field without a call that could be taken back."""


class Unreadable(GrowthError):
    """A text that nothing has."""
