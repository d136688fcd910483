"""The parts of functions: how the p-th powers of p functions, times powers of x, sum to a function."""

from curveheads.curves import check_curve
from curveheads.errors import InvalidList
from curveheads.functions import Function, check_function, function_of
from curveheads.polynomials import poly_common, poly_divided, poly_power, poly_product, poly_sum, poly_trimmed


def parts(one):
    """The p functions whose p-th powers, each times its power of x, sum to a function."""
    check_function(one)
    straight, slanted = over_pth_powers(one)
    return [part_by(one, straight, slanted, at) for at in range(one.curve().prime())]


def of_parts(curve, functions):
    """The function to which the p-th powers of p functions sum, each times its power of x."""
    check_curve(curve)
    check_parts(curve, functions)
    p = curve.prime()
    # With one bottom for all of them, there is just one p-th power to divide by.
    bottom = shared_bottom(p, functions)
    top, side = [], []
    for at, one in enumerate(functions):
        above, power = poly_divided(p, bottom, one.bottom())[0], [0] * at + [1]
        top = poly_sum(p, top, poly_product(p, power, pth_power(p, poly_product(p, above, one.top()))))
        side = poly_sum(p, side, poly_product(p, power, pth_power(p, poly_product(p, above, one.side()))))
    bend = poly_power(p, curve.polynomial(), (p - 1) // 2)
    return function_of(curve, top, poly_product(p, side, bend), pth_power(p, bottom))


def check_parts(curve, functions):
    if not isinstance(functions, list) or len(functions) != curve.prime():
        raise InvalidList(functions)
    if not all([isinstance(one, Function) and one.curve() == curve for one in functions]):
        raise InvalidList(functions)


def last_part(one):
    """The last of the parts of a function."""
    straight, slanted = over_pth_powers(one)
    return part_by(one, straight, slanted, one.curve().prime() - 1)


def over_pth_powers(one):
    """Two polynomials: the first, and the second times the p-th power of y / f, sum to a function times the p-th power
    of its bottom.
    """
    curve, bottom = one.curve(), one.bottom()
    p = curve.prime()
    more = poly_power(p, bottom, p - 1)
    # The p-th power of y is y times f taken (p - 1) // 2 times: so y is that of y / f, times f taken once more.
    bend = poly_power(p, curve.polynomial(), (p + 1) // 2)
    return poly_product(p, one.top(), more), poly_product(p, poly_product(p, one.side(), more), bend)


def part_by(one, straight, slanted, at):
    """The part numbered by a count of a function that two polynomials tell as over_pth_powers does."""
    curve = one.curve()
    p, f = curve.prime(), curve.polynomial()
    # Numbers are their own p-th powers, so a polynomial has the numbers at each p-th place as the root of that part.
    top = poly_product(p, poly_trimmed(straight[at::p]), f)
    return function_of(curve, top, poly_trimmed(slanted[at::p]), poly_product(p, one.bottom(), f))


def shared_bottom(p, functions):
    """The least polynomial that is a multiple of the bottoms of all functions of a list."""
    found = [1]
    for one in functions:
        bottom = one.bottom()
        found = poly_product(p, found, poly_divided(p, bottom, poly_common(p, bottom, found))[0])
    return found


def pth_power(p, one):
    """The p-th power of a polynomial."""
    return poly_trimmed([part for number in one for part in [number] + [0] * (p - 1)])
