"""The functions (top + side * y) / bottom on a curve, and how to reckon with them."""

from curveheads.curves import check_curve
from curveheads.errors import InvalidFunction, InvalidNumber, InvalidPolynomial, Unlike
from curveheads.polynomials import (
    check_polynomial, is_whole, poly_common, poly_divided, poly_less, poly_power, poly_product, poly_slope, poly_sum)

MOST_EXPONENT = 20


class Function:
    """A function on a curve, kept in its least form."""

    def __init__(self, curve, top, side, bottom):
        check_curve(curve)
        p = curve.prime()
        check_polynomial(p, top)
        check_polynomial(p, side)
        check_polynomial(p, bottom)
        if not bottom:
            raise InvalidPolynomial(bottom)
        self._curve = curve
        self._top, self._side, self._bottom = lowest_terms(p, top, side, bottom)

    def curve(self):
        return self._curve

    def top(self):
        return list(self._top)

    def side(self):
        return list(self._side)

    def bottom(self):
        return list(self._bottom)

    def __eq__(self, other):
        if not isinstance(other, Function) or self._curve != other._curve:
            return False
        return self._top == other._top and self._side == other._side and self._bottom == other._bottom

    def __bool__(self):
        return bool(self._top) or bool(self._side)


def sum_of(one, other):
    """The sum of two functions."""
    check_two(one, other)
    p = one.curve().prime()
    low, deep = one.bottom(), other.bottom()
    top = poly_sum(p, poly_product(p, one.top(), deep), poly_product(p, other.top(), low))
    side = poly_sum(p, poly_product(p, one.side(), deep), poly_product(p, other.side(), low))
    return function_of(one.curve(), top, side, poly_product(p, low, deep))


def less_of(one, other):
    """A function less another one."""
    check_two(one, other)
    p = one.curve().prime()
    opposite = function_of(
        one.curve(), poly_less(p, [], other.top()), poly_less(p, [], other.side()), other.bottom())
    return sum_of(one, opposite)


def product_of(one, other):
    """The product of two functions."""
    check_two(one, other)
    curve = one.curve()
    top, side = pair_product(curve, (one.top(), one.side()), (other.top(), other.side()))
    return function_of(curve, top, side, poly_product(curve.prime(), one.bottom(), other.bottom()))


def quotient_of(one, other):
    """The quotient of two functions, the second one not nought."""
    check_function(one)
    check_not_nought(other)
    check_two(one, other)
    return product_of(one, turned_over(other))


def power_of(function, exponent):
    """A function taken so many times by itself, turned over for exponents below 0."""
    check_function(function)
    if not is_whole(exponent) or abs(exponent) > MOST_EXPONENT:
        raise InvalidNumber(exponent)
    if exponent < 0:
        check_not_nought(function)
    found = function_of(function.curve(), [1], [], [1])
    for _ in range(abs(exponent)):
        found = product_of(found, function)
    if exponent < 0:
        return turned_over(found)
    return found


def turned(function):
    """The function with -y in the place of y."""
    check_function(function)
    side = poly_less(function.curve().prime(), [], function.side())
    return function_of(function.curve(), function.top(), side, function.bottom())


def norm(function):
    """The product of a function and its turned one."""
    check_function(function)
    bottom = poly_power(function.curve().prime(), function.bottom(), 2)
    return function_of(function.curve(), norm_of_pair(function.curve(), function.top(), function.side()), [], bottom)


def trace(function):
    """The sum of a function and its turned one."""
    check_function(function)
    top = poly_product(function.curve().prime(), [2], function.top())
    return function_of(function.curve(), top, [], function.bottom())


def far_order(function):
    """The order of the pole of a function, not nought, at the far place."""
    check_not_nought(function)
    return height_of_pair(function.curve(), function.top(), function.side()) - 2 * (len(function.bottom()) - 1)


def lead(function):
    """The leading number of the part of a function, not nought, that its far order tells of."""
    if far_order(function) % 2 == 0:
        return function.top()[-1]
    return function.side()[-1]


def slope(function):
    """The slope of a function by x."""
    check_function(function)
    p, f = function.curve().prime(), function.curve().polynomial()
    bottom, double = function.bottom(), poly_product(p, [2], f)
    # The slope of y is y times the slope of f, divided by 2 * f: so 2 * f comes to the bottom.
    bend = poly_product(p, poly_product(p, function.side(), bottom), poly_slope(p, f))
    top = poly_product(p, double, slope_over(p, function.top(), bottom))
    side = poly_sum(p, poly_product(p, double, slope_over(p, function.side(), bottom)), bend)
    return function_of(function.curve(), top, side, poly_product(p, double, poly_power(p, bottom, 2)))


def pth_root(function):
    """The function whose p-th power is a function, None if there is none."""
    check_function(function)
    p, f = function.curve().prime(), function.curve().polynomial()
    # The p-th power of y is y times f taken (p - 1) // 2 times, so the parts without and with y go each by itself.
    bend = poly_power(p, f, (p - 1) // 2)
    straight = fraction_root(p, function.top(), function.bottom())
    slanted = fraction_root(p, function.side(), poly_product(p, function.bottom(), bend))
    if straight is None or slanted is None:
        return None
    (top, low), (side, deep) = straight, slanted
    return function_of(
        function.curve(), poly_product(p, top, deep), poly_product(p, side, low), poly_product(p, low, deep))


def check_function(function):
    if not isinstance(function, Function):
        raise InvalidFunction(function)


def check_function_on(curve, function):
    """Refuse what is no function on this very curve."""
    check_function(function)
    if function.curve() != curve:
        raise InvalidFunction(function)


def check_not_nought(function):
    check_function(function)
    if not function:
        raise InvalidFunction(function)


def check_two(one, other):
    check_function(one)
    check_function(other)
    if one.curve() != other.curve():
        raise Unlike(other)


def function_of(curve, top, side, bottom):
    """The function (top + side * y) / bottom, with polynomials of whatever powers."""
    # What is returned may have greater powers than what is handed in, so it does not go through the checks.
    found = Function(curve, [], [], [1])
    found._top, found._side, found._bottom = lowest_terms(curve.prime(), top, side, bottom)
    return found


def pair_product(curve, one, other):
    """The product of two functions that are told by pairs of polynomials, without y and with y, as such a pair."""
    p = curve.prime()
    both = poly_product(p, poly_product(p, one[1], other[1]), curve.polynomial())
    crossed = poly_sum(p, poly_product(p, one[0], other[1]), poly_product(p, one[1], other[0]))
    return poly_sum(p, poly_product(p, one[0], other[0]), both), crossed


def sum_of_multiples(curve, numbers, functions):
    """The sum of functions on a curve, each times a number."""
    found = function_of(curve, [], [], [1])
    for number, one in zip(numbers, functions):
        if number != 0:
            found = sum_of(found, product_of(function_of(curve, [number], [], [1]), one))
    return found


def lowest_terms(p, top, side, bottom):
    """Three polynomials, the last not nought, without a factor that divides all of them, the last one monic."""
    shared = poly_common(p, poly_common(p, bottom, top), side)
    divisor = poly_product(p, shared, [bottom[-1]])
    return [poly_divided(p, one, divisor)[0] for one in (top, side, bottom)]


def norm_of_pair(curve, top, side):
    """The polynomial that is the product of top + side * y and top - side * y."""
    p = curve.prime()
    return poly_less(p, poly_power(p, top, 2), poly_product(p, poly_power(p, side, 2), curve.polynomial()))


def turned_over(function):
    """The quotient of 1 by a function that is not nought."""
    p, bottom = function.curve().prime(), function.bottom()
    top = poly_product(p, bottom, function.top())
    side = poly_product(p, bottom, poly_less(p, [], function.side()))
    return function_of(function.curve(), top, side, norm_of_pair(function.curve(), function.top(), function.side()))


def height_of_pair(curve, top, side):
    """The far order of the function top + side * y, not nought."""
    orders = []
    if top:
        orders.append(2 * (len(top) - 1))
    if side:
        orders.append(2 * (len(side) - 1) + len(curve.polynomial()) - 1)
    return max(orders)


def slope_over(p, one, bottom):
    """The slope of the quotient of two polynomials, times the second one taken twice."""
    return poly_less(
        p, poly_product(p, poly_slope(p, one), bottom), poly_product(p, one, poly_slope(p, bottom)))


def fraction_root(p, one, other):
    """Two polynomials whose quotient has that of two told ones as its p-th power, None if there are none."""
    shared = poly_common(p, one, other)
    parts = [poly_divided(p, part, shared)[0] for part in (one, other)]
    if any([poly_slope(p, part) for part in parts]):
        return None
    # Numbers are their own p-th powers, so the p-th power of a polynomial has its numbers at each p-th place.
    return [part[::p] for part in parts]
