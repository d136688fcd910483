"""The errors of the package, each with the value that it refuses."""


class CurveError(ValueError):
    """The error above all others of the package."""

    def __init__(self, value=None):
        self.value = value


class InvalidPrime(CurveError):
    """What stands for the prime is none of the five."""


class InvalidPolynomial(CurveError):
    """What stands for a polynomial is none, or not one of the kind that is asked for."""


class InvalidNumber(CurveError):
    """What stands for a whole number is none, or lies outside its bounds."""


class InvalidCurve(CurveError):
    """What stands for a curve is none."""


class InvalidFunction(CurveError):
    """What stands for a function is none, or not one of the kind that is asked for."""


class InvalidPlace(CurveError):
    """What stands for a place of a curve is none."""


class InvalidBundle(CurveError):
    """What stands for a bundle of places is none."""


class InvalidForm(CurveError):
    """What stands for the form of a bundle is none."""


class InvalidSeries(CurveError):
    """What stands for a series, or for a value at a place, is none."""


class InvalidHeads(CurveError):
    """What stands for heads is none."""


class InvalidList(CurveError):
    """What stands for a list is none of the kind that is asked for."""


class Unlike(CurveError):
    """Two functions do not have the same curve."""


class TooMany(CurveError):
    """There are more things than can be listed; the value is their number."""
