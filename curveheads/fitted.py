"""Functions that fit heads at all near places, with as low a far order as can be."""

from curveheads.bundles import number_there
from curveheads.functions import function_of, less_of, product_of, sum_of
from curveheads.lifts import lifted_root, shifted_quotient
from curveheads.orders import order_there
from curveheads.polynomials import inverse, poly_divided, poly_power, poly_product, poly_rest, poly_sum
from curveheads.primes import taken_out
from curveheads.reduced import crossed, least_pairs
from curveheads.rests import rest_inverse


def least_fitting(curve, bundle, heads):
    """Two functions whose sum fits a bundle and heads at all near places.

    The second one begins at the far place like the head there, as far as the bundle asks for, and is 0 without such a
    head. The first one has the least far order that it can have then, or is 0.
    """
    near, far = function_of(curve, [], [], [1]), function_of(curve, [], [], [1])
    needed = needed_zeros(bundle)
    for place, function in heads:
        if place == ():
            far = begun_far(curve, function, number_there(bundle, ()))
        elif function:
            near = sum_of(near, fitting_at(curve, needed, place, function))
    return lowered(curve, bundle, less_of(near, far)), far


def needed_zeros(bundle):
    """The prime polynomials of the near places of a bundle, each with how often it is to divide a function without
    poles there, so that the bundle lets it at these places.
    """
    # At branches half as often would do.
    asked = [(place[0], max(0, -number)) for place, number in bundle if place != ()]
    found = []
    for q, _ in asked:
        if q not in [prime for prime, _ in found]:
            found.append((q, max([zeros for prime, zeros in asked if prime == q])))
    return found


def fitting_at(curve, needed, place, function):
    """A function that a bundle lets at all near places but one, less the function of a head there at that one, too.

    The needed zeros are those of the bundle.
    """
    p, q = curve.prime(), place[0]
    poles = max(0, -order_there(function, place))
    count, others = poles, [1]
    for prime, zeros in needed:
        if prime == q:
            count += zeros
        else:
            others = poly_product(p, others, poly_power(p, prime, zeros))
    if count == 0:
        return function_of(curve, [], [], [1])
    high = poly_power(p, q, count)
    # The other prime polynomials are to divide it, and do not change how it begins at this place.
    turn = rest_inverse(p, high, poly_rest(p, others, high))
    pair = [poly_product(p, others, poly_rest(p, poly_product(p, part, turn), high))
            for part in pair_at(function, place, poles, count)]
    return function_of(curve, pair[0], pair[1], poly_power(p, q, poles))


def pair_at(function, place, poles, count):
    """Two polynomials a and b by which a function begins at a near place like a + b * y, divided by q so many times.

    They are told up to multiples of q taken count times. At the plain place turned about a + b * y begins with as many
    zeros.
    """
    curve, (q, w) = function.curve(), place
    p, bottom = curve.prime(), function.bottom()
    if not w:
        return [shifted_quotient(p, q, part, bottom, poles, count) for part in (function.top(), function.side())]
    known = count - poles + taken_out(p, bottom, q)[0]
    root = lifted_root(p, curve.polynomial(), place, known)
    top = poly_sum(p, function.top(), poly_product(p, function.side(), root))
    whole = shifted_quotient(p, q, poly_rest(p, top, poly_power(p, q, known)), bottom, poles, count)
    high = poly_power(p, q, count)
    half = poly_product(p, whole, [inverse(p, 2)])
    return [half, poly_product(p, half, rest_inverse(p, high, poly_rest(p, root, high)))]


def begun_far(curve, function, number):
    """A function with a power of x for its bottom that differs from a function by what a bundle with a number at the
    far place lets there.
    """
    p = curve.prime()
    # What is left out has at most the far order of y, less twice the power of x and 2 more.
    power = max(0, (len(curve.polynomial()) - 1 - number) // 2)
    above = [0] * power + [1]
    pair = [poly_divided(p, poly_product(p, part, above), function.bottom())[0]
            for part in (function.top(), function.side())]
    return function_of(curve, pair[0], pair[1], above)


def lowered(curve, bundle, function):
    """A function, less one that a bundle nearly lets, with the least far order that there is for such a one, or 0."""
    p, (top, bottom, even, odd) = curve.prime(), least_pairs(curve, bundle)
    found = product_of(function, function_of(curve, bottom, [], top))
    pair, whole = (found.top(), found.side()), poly_product(p, crossed(p, even, odd), found.bottom())
    # By the least two functions each one is told with quotients of polynomials: just what these have beyond
    # polynomials is left, as the far orders of multiples of the two never are equal.
    a, b = poly_rest(p, crossed(p, pair, odd), whole), poly_rest(p, crossed(p, even, pair), whole)
    left = [poly_sum(p, poly_product(p, a, by_even), poly_product(p, b, by_odd)) for by_even, by_odd in zip(even, odd)]
    return function_of(
        curve, poly_product(p, top, left[0]), poly_product(p, top, left[1]), poly_product(p, bottom, whole))
