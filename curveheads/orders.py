"""The orders of functions at places."""

from curveheads.curves import check_curve
from curveheads.functions import check_function_on, far_order, norm_of_pair
from curveheads.places import check_place, is_wide
from curveheads.polynomials import poly_divided, poly_product, poly_rest, poly_sum
from curveheads.primes import taken_out


def order_at(curve, function, place):
    """The order of a function at a place, None for the function 0."""
    check_curve(curve)
    check_function_on(curve, function)
    check_place(curve, place)
    if not function:
        return None
    return order_there(function, place)


def order_there(function, place):
    """The order of a function, not nought, at a place."""
    if place == ():
        return -far_order(function)
    return near_order(function, place)


def near_order(function, place):
    """The order of a function, not nought, at a near place."""
    p = function.curve().prime()
    q, w = place
    times, top, side = taken_out_of_both(p, function.top(), function.side(), q)
    times = times - taken_out(p, function.bottom(), q)[0]
    if w == []:
        # The order of y is 1 here, and q divides top and side not both: so top decides unless q divides it.
        return 2 * times + (1 if not poly_rest(p, top, q) else 0)
    if is_wide(place) or poly_rest(p, poly_sum(p, top, poly_product(p, side, w)), q):
        return times
    return times + taken_out(p, norm_of_pair(function.curve(), top, side), q)[0]


def taken_out_of_both(p, one, other, q):
    """How many times q divides two polynomials, not both nought, and what is left of them then."""
    times = 0
    (one_less, rest), (other_less, more) = poly_divided(p, one, q), poly_divided(p, other, q)
    while not rest and not more:
        times += 1
        one, other = one_less, other_less
        (one_less, rest), (other_less, more) = poly_divided(p, one, q), poly_divided(p, other, q)
    return times, one, other
