"""Residues reckoned with anew: functions written by powers of x less a root of q, over the field of the values.

Values and series stand as in tests.reckoning; a series is a list of values from the power 0 on.
"""

from tests import reckoning


class Field:
    """The values at a near place."""

    def __init__(self, p, f, place):
        self.p, self.f, self.place = p, f, place
        q, w = place
        x = reckoning.rest(p, [0, 1], q)
        self.nought, self.one = reckoning.nought_at(place), reckoning.number_at(place, 1)
        self.x = (x, []) if w is None else x
        self.y = ([], [1]) if w is None else w

    def plus(self, one, other):
        return reckoning.sum_there(self.p, self.place, one, other)

    def times(self, one, other):
        return reckoning.product_there(self.p, self.f, self.place, one, other)

    def number(self, number):
        return reckoning.number_at(self.place, number % self.p)

    def over(self, one):
        exponent = self.p ** reckoning.degree(self.place) - 2
        return reckoning.taken_there(self.p, self.f, self.place, one, exponent)

    def trace(self, one):
        total = self.nought
        for other in reckoning.conjugates(self.p, self.f, self.place, one):
            total = self.plus(total, other)
        return sum(total[0] if isinstance(total, tuple) else total)

    def series_product(self, one, other, size):
        found = [self.nought] * size
        for i, left in enumerate(one):
            for j, right in enumerate(other[:size - i]):
                found[i + j] = self.plus(found[i + j], self.times(left, right))
        return found

    def polynomial(self, numbers, size):
        """The series of a polynomial in x: at each step x is the root and t more."""
        found = [self.nought] * size
        for number in reversed(numbers):
            shifted = [self.nought] + found[:-1]
            found = [self.plus(self.times(self.x, one), other) for one, other in zip(found, shifted)]
            found[0] = self.plus(found[0], self.number(number))
        return found

    def root(self, size):
        """The series of y at a plain or wide place."""
        square, found = self.polynomial(self.f, size), [self.y]
        turn = self.over(self.plus(self.y, self.y))
        for at in range(1, size):
            missing = square[at]
            for by in range(1, at):
                missing = self.plus(missing, self.times(self.number(-1), self.times(found[by], found[at - by])))
            found.append(self.times(missing, turn))
        return found

    def inverse(self, one, size):
        turn = self.over(one[0])
        found = [turn]
        for at in range(1, size):
            total = self.nought
            for by in range(1, at + 1):
                total = self.plus(total, self.times(one[by], found[at - by]))
            found.append(self.times(self.times(self.number(-1), turn), total))
        return found


def residue_by_series(p, f, one, place):
    """The residue of the differential of a function (top, side, bottom) at a place."""
    top, side, bottom = one
    if not place:
        return residue_far_away(p, top, bottom)
    times = reckoning.times_divided(p, bottom, place[0])
    if not times:
        return 0
    field = Field(p, f, place)
    below = field.polynomial(bottom, 2 * times)[times:]
    above = field.polynomial(top, times)
    if place[1] == []:
        # There dx has a zero and x less its root is a square but for a factor: so what is without y counts twice.
        above = [field.plus(value, value) for value in above]
    else:
        bent = field.series_product(field.polynomial(side, times), field.root(times), times)
        above = [field.plus(value, other) for value, other in zip(above, bent)]
    return field.trace(field.series_product(above, field.inverse(below, times), times)[times - 1])


def residue_far_away(p, top, bottom):
    """Nought less the number at 1 / x of twice a quotient of polynomials."""
    left = reckoning.rest(p, reckoning.times(p, [2], top), bottom)
    return -left[-1] * pow(bottom[-1], -1, p) % p if len(left) == len(bottom) - 1 and left else 0
