"""Curves y * y = f(x) over the numbers modulo a prime."""

from curveheads.errors import InvalidCurve, InvalidPolynomial
from curveheads.polynomials import check_prime, is_polynomial, poly_common, poly_slope

POWERS = (1, 3, 5, 7)


def is_curve_polynomial(p, f):
    """Whether a value is a monic polynomial, of one of the powers, without a double factor."""
    if not is_polynomial(p, f) or len(f) - 1 not in POWERS or f[-1] != 1:
        return False
    return poly_common(p, f, poly_slope(p, f)) == [1]


class Curve:
    """The curve y * y = f(x) over the numbers modulo p."""

    def __init__(self, p, f):
        check_prime(p)
        if not is_curve_polynomial(p, f):
            raise InvalidPolynomial(f)
        self._prime = p
        self._numbers = tuple(f)

    def prime(self):
        return self._prime

    def polynomial(self):
        return list(self._numbers)

    def genus(self):
        """The power of f less 1, halved."""
        return (len(self._numbers) - 2) // 2

    def __eq__(self, other):
        return isinstance(other, Curve) and self._prime == other._prime and self._numbers == other._numbers


def check_curve(curve):
    if not isinstance(curve, Curve):
        raise InvalidCurve(curve)
