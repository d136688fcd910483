"""Functions that a bundle lets, and the least two of those that it lets nearly."""

from curveheads.bundles import check_bundle, multiple_of_bundle, number_there
from curveheads.curves import check_curve
from curveheads.forms import made_form, pair_over, shares_of
from curveheads.functions import check_function_on, far_order, function_of, height_of_pair
from curveheads.polynomials import inverse, poly_divided, poly_less, poly_product


def lets(curve, bundle, function):
    """Whether a bundle lets a function."""
    check_bundle_and_function(curve, bundle, function)
    return is_let(bundle, function)


def nearly_lets(curve, bundle, function):
    """Whether a bundle lets a function at all near places."""
    check_bundle_and_function(curve, bundle, function)
    return is_nearly_let(bundle, function)


def least_two(curve, bundle):
    """The two functions whose sums of multiples by polynomials are just the functions that a bundle nearly lets."""
    check_curve(curve)
    check_bundle(curve, bundle)
    least = least_pairs(curve, bundle)
    return pair_function(curve, least, least[2]), pair_function(curve, least, least[3])


def two_fars(curve, bundle):
    """The far orders of the least two functions."""
    check_curve(curve)
    check_bundle(curve, bundle)
    return fars_of(curve, least_pairs(curve, bundle))


def near_parts(curve, bundle, function):
    """The two polynomials by which the least two functions sum to a function, None if it is not nearly let."""
    check_bundle_and_function(curve, bundle, function)
    return parts_by_pairs(least_pairs(curve, bundle), function)


def check_bundle_and_function(curve, bundle, function):
    check_curve(curve)
    check_bundle(curve, bundle)
    check_function_on(curve, function)


def is_let(bundle, function):
    """Whether a bundle lets a function."""
    if not function:
        return True
    return far_order(function) <= number_there(bundle, ()) and is_nearly_let(bundle, function)


def is_nearly_let(bundle, function):
    """Whether a bundle lets a function at all near places."""
    return shares_of(zeros_form(function.curve(), bundle), function) is not None


def zeros_form(curve, bundle):
    """The form of the bundle with the opposite numbers: the orders that a bundle asks for."""
    return made_form(curve, multiple_of_bundle(bundle, -1))


def least_pairs(curve, bundle):
    """The least two functions as a tuple (top, bottom, even, odd).

    Both are pairs of polynomials, the parts without y and with y: what they tell, times top and divided by bottom, are
    the functions.
    """
    top, bottom, u, v, _ = zeros_form(curve, bundle)
    even, odd = reduced_pairs(curve, u, v)
    return top, bottom, even, odd


def reduced_pairs(curve, u, v):
    """The least two functions among the sums of multiples by polynomials of u and y - v, as pairs of polynomials."""
    p = curve.prime()
    even, odd = (u, []), (poly_less(p, [], v), [1])
    while pair_height(curve, odd) % 2 == 0:
        # With two even heights the parts without y tell both: the lesser pair is taken from the other one, as in a
        # search for the greatest common factor, until the part with y tells one.
        if pair_height(curve, even) > pair_height(curve, odd):
            even, odd = odd, even
        odd = pair_less(p, odd, even, 0)
    even, odd = led_by_one(p, even, 0), led_by_one(p, odd, 1)
    if pair_height(curve, even) < pair_height(curve, odd):
        return even, pair_less(p, odd, even, 0)
    return pair_less(p, even, odd, 1), odd


def pair_height(curve, pair):
    """The far order of the function that a pair of polynomials, not both nought, tells."""
    return height_of_pair(curve, pair[0], pair[1])


def pair_less(p, pair, other, at):
    """A pair less the multiple of another one that leaves of one part just the rest by that of the other pair."""
    times = poly_divided(p, pair[at], other[at])[0]
    return tuple([poly_less(p, part, poly_product(p, times, taken)) for part, taken in zip(pair, other)])


def led_by_one(p, pair, at):
    """A pair divided by the leading number of one of its parts."""
    turn = [inverse(p, pair[at][-1])]
    return tuple([poly_product(p, part, turn) for part in pair])


def pair_function(curve, least, pair):
    """The function that a pair of polynomials tells, times the top and divided by the bottom of the least pairs."""
    p, (top, bottom, _, _) = curve.prime(), least
    return function_of(curve, poly_product(p, top, pair[0]), poly_product(p, top, pair[1]), bottom)


def fars_of(curve, least):
    """The far orders of the least two functions."""
    top, bottom, even, odd = least
    shift = 2 * (len(top) - len(bottom))
    return pair_height(curve, even) + shift, pair_height(curve, odd) + shift


def parts_by_pairs(least, function):
    """The two polynomials by which the least two functions sum to a function, None if they do not."""
    top, bottom, even, odd = least
    p = function.curve().prime()
    pair = pair_over(function, top, bottom)
    if pair is None:
        return None
    whole = crossed(p, even, odd)
    (a, rest), (b, more) = poly_divided(p, crossed(p, pair, odd), whole), poly_divided(p, crossed(p, even, pair), whole)
    return None if rest or more else (a, b)


def crossed(p, one, other):
    """The product of the first part of a pair and the second one of another, less that of the other two."""
    return poly_less(p, poly_product(p, one[0], other[1]), poly_product(p, one[1], other[0]))
