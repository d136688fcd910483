"""The values of functions at places, and the series by which functions begin there."""

from curveheads.curves import check_curve
from curveheads.errors import InvalidNumber, InvalidSeries
from curveheads.fields import is_value
from curveheads.functions import (
    check_function_on, check_not_nought, function_of, product_of, sum_of, turned_over)
from curveheads.lifts import digits_of_quotient, lifted_root
from curveheads.orders import order_there
from curveheads.places import check_place, is_wide
from curveheads.polynomials import is_whole, poly_divided, poly_power, poly_product, poly_sum, poly_trimmed
from curveheads.primes import taken_out
from curveheads.rests import rest_inverse

MOST_ORDER = 40
MOST_VALUES = 24


def value_at(curve, function, place):
    """The value of a function at a place, None if it has a pole there."""
    check_curve(curve)
    check_function_on(curve, function)
    check_place(curve, place)
    order = order_there(function, place) if function else 1
    if order < 0:
        return None
    if order > 0:
        return ([], []) if is_wide(place) else []
    return first_values(function, place, 0, 1)[0]


def local_sign(curve, place):
    """The function of the order 1 at a place by whose powers the series there go."""
    check_curve(curve)
    check_place(curve, place)
    return sign_at(curve, place)


def series(curve, function, place, count):
    """The order of a function, not nought, at a place, and so many values by which it begins there."""
    check_curve(curve)
    check_function_on(curve, function)
    check_not_nought(function)
    check_place(curve, place)
    if not is_whole(count) or not 1 <= count <= MOST_VALUES:
        raise InvalidNumber(count)
    order = order_there(function, place)
    return order, first_values(function, place, order, count)


def is_series(curve, place, value):
    """Whether a value is a series at a place."""
    check_curve(curve)
    check_place(curve, place)
    if not isinstance(value, tuple) or len(value) != 2:
        return False
    order, values = value
    if not is_whole(order) or abs(order) > MOST_ORDER:
        return False
    if not isinstance(values, list) or not 1 <= len(values) <= MOST_VALUES:
        return False
    return all([is_value(curve, place, one) for one in values]) and values[0] not in ([], ([], []))


def begun(curve, place, told):
    """The function that begins at a place by a series and that is just the sum which the series tells."""
    if not is_series(curve, place, told):
        raise InvalidSeries(told)
    order, values = told
    sign = sign_at(curve, place)
    found = function_of(curve, [], [], [1])
    for value in reversed(values):
        top, side = value if is_wide(place) else (value, [])
        found = sum_of(product_of(found, sign), function_of(curve, top, side, [1]))
    return product_of(found, taken(sign, order))


def sign_at(curve, place):
    """The local sign of a place."""
    if place == ():
        return function_of(curve, [], [0] * curve.genus() + [1], curve.polynomial())
    if place[1] == []:
        return function_of(curve, [], [1], [1])
    return function_of(curve, place[0], [], [1])


def taken(function, exponent):
    """A function, not nought, taken so many times by itself, however often, turned over for exponents below 0."""
    found = function_of(function.curve(), [1], [], [1])
    left = abs(exponent)
    while left > 0:
        if left % 2 == 1:
            found = product_of(found, function)
        function = product_of(function, function)
        left = left // 2
    return turned_over(found) if exponent < 0 else found


def first_values(function, place, order, count):
    """So many values by which a function of at least this order begins at a place."""
    if place == ():
        return far_values(function, order, count)
    if place[1] is None:
        return wide_values(function, place[0], order, count)
    if place[1] == []:
        return branch_values(function, place[0], order, count)
    return plain_values(function, place, order, count)


def plain_values(function, place, order, count):
    """The values by which a function begins at a plain place."""
    curve, q = function.curve(), place[0]
    p = curve.prime()
    # There y begins like a polynomial: so many powers of q more are needed as the bottom will take away.
    needed = order + count + taken_out(p, function.bottom(), q)[0]
    root = lifted_root(p, curve.polynomial(), place, needed)
    top = poly_sum(p, function.top(), poly_product(p, function.side(), root))
    top = poly_divided(p, top, poly_power(p, q, needed))[1]
    return digits_of_quotient(p, (q, [1]), top, function.bottom(), order, count)


def wide_values(function, q, order, count):
    """The values by which a function begins at a wide place."""
    p = function.curve().prime()
    tops = digits_of_quotient(p, (q, [1]), function.top(), function.bottom(), order, count)
    sides = digits_of_quotient(p, (q, [1]), function.side(), function.bottom(), order, count)
    return list(zip(tops, sides))


def branch_values(function, q, order, count):
    """The values by which a function begins at a branch."""
    p, f = function.curve().prime(), function.curve().polynomial()
    # The square of the local sign y is f: q times its cofactor.
    high = poly_power(p, q, count + 1)
    bend = rest_inverse(p, high, poly_divided(p, poly_divided(p, f, q)[0], high)[1])
    straight, slanted = (function.top(), function.bottom()), (function.side(), function.bottom())
    return paired_values(p, (q, bend), straight, slanted, order, count)


def far_values(function, order, count):
    """The values by which a function begins at the far place."""
    p, f = function.curve().prime(), function.curve().polynomial()
    # The square of the local sign is x ** (2 * g) / f, which is 1 / x divided by f read from its end in 1 / x; and y is
    # the local sign times f / x ** g.
    lower = poly_product(p, [0] * function.curve().genus() + [1], function.bottom())
    straight = read_from_end(function.top(), function.bottom())
    slanted = read_from_end(poly_product(p, function.side(), f), lower)
    return paired_values(p, ([0, 1], poly_trimmed(f[::-1])), straight, slanted, order, count)


def read_from_end(top, bottom):
    """A quotient of two polynomials in x as one of two polynomials in 1 / x."""
    shift = len(bottom) - len(top)
    if not top:
        return [], bottom
    return [0] * max(shift, 0) + poly_trimmed(top[::-1]), [0] * max(-shift, 0) + poly_trimmed(bottom[::-1])


def paired_values(p, modulus, straight, slanted, order, count):
    """The values where the square of the local sign is a function of x: every other one comes from the part with y."""
    first, many = order // 2, count // 2 + 1
    found = [digits_of_quotient(p, modulus, top, bottom, first, many) for top, bottom in (straight, slanted)]
    return [found[at % 2][at // 2 - first] for at in range(order, order + count)]
