"""The values that functions have at places, and how to reckon with them."""

from curveheads.curves import check_curve
from curveheads.errors import InvalidSeries
from curveheads.places import check_place, is_wide
from curveheads.polynomials import poly_less, poly_product, poly_sum
from curveheads.rests import is_rest, rest_inverse, rest_power, rest_product


def value_sum(curve, place, one, other):
    """The value of the sum of two functions with these values."""
    check_two_values(curve, place, one, other)
    p = curve.prime()
    if is_wide(place):
        return tuple([poly_sum(p, left, right) for left, right in zip(one, other)])
    return poly_sum(p, one, other)


def value_product(curve, place, one, other):
    """The value of the product of two functions with these values."""
    check_two_values(curve, place, one, other)
    return product_there(curve, place, one, other)


def value_quotient(curve, place, one, other):
    """The value of the quotient of two functions with these values, the second one not nought."""
    check_two_values(curve, place, one, other)
    if other in ([], ([], [])):
        raise InvalidSeries(other)
    return product_there(curve, place, one, value_inverse(curve, place, other))


def value_norm(curve, place, value):
    """The number that is the product of the powers of a value with the exponents 1, p, p * p and so on."""
    check_curve(curve)
    check_place(curve, place)
    check_value(curve, place, value)
    return norm_there(curve, place, value)


def value_trace(curve, place, value):
    """The number that is the sum of the powers of a value with the exponents 1, p, p * p and so on."""
    check_curve(curve)
    check_place(curve, place)
    check_value(curve, place, value)
    p, q = curve.prime(), prime_at(place)
    if is_wide(place):
        # They come in pairs alike: the sum of such a pair, twice the part without y, takes its place.
        value = poly_product(p, [2], value[0])
    total = []
    for one in conjugates(p, q, value):
        total = poly_sum(p, total, one)
    return as_number(total)


def check_two_values(curve, place, one, other):
    check_curve(curve)
    check_place(curve, place)
    check_value(curve, place, one)
    check_value(curve, place, other)


def check_value(curve, place, value):
    if not is_value(curve, place, value):
        raise InvalidSeries(value)


def is_value(curve, place, value):
    """Whether something is a value at a place."""
    p, q = curve.prime(), prime_at(place)
    if is_wide(place):
        return isinstance(value, tuple) and len(value) == 2 and all([is_rest(p, q, part) for part in value])
    return is_rest(p, q, value)


def prime_at(place):
    """The prime polynomial by which the values at a place are rests."""
    if place == ():
        # The rests by a polynomial of the power 1 are the numbers, and so are the values at the far place.
        return [0, 1]
    return place[0]


def product_there(curve, place, one, other):
    """The product of two values at a place."""
    p, q = curve.prime(), prime_at(place)
    if not is_wide(place):
        return rest_product(p, q, one, other)
    (left, by_y), (right, more_by_y) = one, other
    both = rest_product(p, q, poly_product(p, by_y, more_by_y), curve.polynomial())
    crossed = poly_sum(p, rest_product(p, q, left, more_by_y), rest_product(p, q, right, by_y))
    return poly_sum(p, rest_product(p, q, left, right), both), crossed


def value_inverse(curve, place, value):
    """The value whose product with a value, not nought, is 1."""
    p, q = curve.prime(), prime_at(place)
    if not is_wide(place):
        return rest_inverse(p, q, value)
    turn = rest_inverse(p, q, wide_norm(curve, q, value))
    return rest_product(p, q, value[0], turn), rest_product(p, q, poly_less(p, [], value[1]), turn)


def norm_there(curve, place, value):
    """The number that is the product of the powers of a value with the exponents 1, p, p * p and so on."""
    p, q = curve.prime(), prime_at(place)
    if is_wide(place):
        # The powers come in pairs that differ by the sign of y: the product of such a pair takes its place.
        value = wide_norm(curve, q, value)
    taken = [1]
    for one in conjugates(p, q, value):
        taken = rest_product(p, q, taken, one)
    return as_number(taken)


def wide_norm(curve, q, value):
    """The product of a value at a wide place and of its turned one: a rest."""
    p = curve.prime()
    without, by_y = value
    bend = rest_product(p, q, poly_product(p, by_y, by_y), curve.polynomial())
    return poly_less(p, rest_product(p, q, without, without), bend)


def conjugates(p, q, one):
    """The list of the powers of a rest with the exponents 1, p, p * p and so on, as many as the power of q tells."""
    found = []
    for _ in range(len(q) - 1):
        found.append(one)
        one = rest_power(p, q, one, p)
    return found


def as_number(one):
    """The number that a rest without an x is."""
    return sum(one)
