"""Forms of bundles: a bundle told by four polynomials and its number at the far place."""

from curveheads.bundles import check_bundle, made_bundle
from curveheads.curves import check_curve
from curveheads.errors import InvalidForm
from curveheads.functions import check_function_on, function_of, product_of
from curveheads.lifts import lifted_root
from curveheads.places import near_places
from curveheads.polynomials import (
    is_polynomial, is_whole, poly_bezout, poly_common, poly_divided, poly_less, poly_power, poly_product, poly_rest,
    poly_sum)
from curveheads.primes import prime_divisors, taken_out


def is_form(curve, value):
    """Whether a value is a form of a curve."""
    check_curve(curve)
    if not isinstance(value, tuple) or len(value) != 5:
        return False
    p = curve.prime()
    if not is_whole(value[4]) or not all([is_polynomial(p, part) for part in value[:4]]):
        return False
    top, bottom, u, v, _ = value
    if not all([part[-1:] == [1] for part in (top, bottom, u)]) or len(v) >= len(u):
        return False
    return poly_common(p, top, bottom) == [1] and not poly_rest(p, missing_of(curve, v), u)


def form_of(curve, bundle):
    """The form of a bundle."""
    check_curve(curve)
    check_bundle(curve, bundle)
    return made_form(curve, bundle)


def form_bundle(curve, form):
    """The bundle of a form."""
    check_curve(curve)
    check_form(curve, form)
    p = curve.prime()
    top, bottom, u, v, far = form
    numbered = [((), far)]
    for q in all_divisors(p, (top, bottom, u)):
        both, more = taken_out(p, top, q)[0] - taken_out(p, bottom, q)[0], taken_out(p, u, q)[0]
        for place in near_places(curve, q):
            number = 2 * both if place[1] == [] else both
            # What u has more than once is had by the place alone whose polynomial v begins with.
            numbered.append((place, number + more if place[1] == poly_rest(p, v, q) else number))
    return made_bundle(numbered)


def composed(curve, one, other):
    """The form of the sum of the bundles of two forms."""
    check_curve(curve)
    check_form(curve, one)
    check_form(curve, other)
    return joint_form(curve, one, other)


def form_opposite(curve, form):
    """The form of the bundle with the opposite numbers."""
    check_curve(curve)
    check_form(curve, form)
    return opposite_of(curve, form)


def shares(curve, form, function):
    """The two polynomials by which the two functions of a form sum to a function, None if there are none."""
    check_curve(curve)
    check_form(curve, form)
    check_function_on(curve, function)
    return shares_of(form, function)


def check_form(curve, form):
    if not is_form(curve, form):
        raise InvalidForm(form)


def missing_of(curve, v):
    """The polynomial of a curve, less the square of a polynomial."""
    p = curve.prime()
    return poly_less(p, curve.polynomial(), poly_product(p, v, v))


def all_divisors(p, polynomials):
    """The prime polynomials that divide one of some monic polynomials, each once."""
    found = []
    for one in polynomials:
        found.extend([q for q in prime_divisors(p, one) if q not in found])
    return found


def made_form(curve, bundle):
    """The form of a bundle."""
    found = ([1], [1], [1], [], 0)
    for place, number in bundle:
        found = joint_form(curve, found, form_there(curve, place, number))
    return found


def form_there(curve, place, number):
    """The form of the bundle with one place."""
    if place == ():
        return [1], [1], [1], [], number
    p = curve.prime()
    q, w = place
    if number < 0:
        return opposite_of(curve, form_there(curve, place, -number))
    if w is None:
        return poly_power(p, q, number), [1], [1], [], 0
    if w == []:
        return poly_power(p, q, number // 2), [1], poly_power(p, q, number % 2), [], 0
    return [1], [1], poly_power(p, q, number), lifted_root(p, curve.polynomial(), place, number), 0


def joint_form(curve, one, other):
    """The form of the sum of the bundles of two forms."""
    p = curve.prime()
    top, bottom, u, v, far = one
    more_top, more_bottom, more_u, more_v, more_far = other
    # Gauss's way to compose: what all three of both u and the sum of both v have in common goes over to the top.
    shared, by_one, by_other = poly_bezout(p, u, more_u)
    shared, by_both, by_sum = poly_bezout(p, shared, poly_sum(p, v, more_v))
    left = poly_product(p, poly_product(p, by_both, by_one), poly_product(p, u, more_v))
    right = poly_product(p, poly_product(p, by_both, by_other), poly_product(p, more_u, v))
    crossed = poly_product(p, by_sum, poly_sum(p, poly_product(p, v, more_v), curve.polynomial()))
    root = poly_divided(p, poly_sum(p, poly_sum(p, left, right), crossed), shared)[0]
    square = poly_product(p, shared, shared)
    found_u = poly_divided(p, poly_product(p, u, more_u), square)[0]
    found_top = poly_product(p, shared, poly_product(p, top, more_top))
    found_top, found_bottom = lowest(p, found_top, poly_product(p, bottom, more_bottom))
    return found_top, found_bottom, found_u, poly_rest(p, root, found_u), far + more_far


def lowest(p, top, bottom):
    """Two polynomials without their greatest common factor."""
    shared = poly_common(p, top, bottom)
    return poly_divided(p, top, shared)[0], poly_divided(p, bottom, shared)[0]


def opposite_of(curve, form):
    """The form of the bundle with the opposite numbers."""
    p = curve.prime()
    top, bottom, u, v, far = form
    # The product of u and y - v with u and y + v is that of u with the number 1, so that u comes to the bottom.
    found_top, found_bottom = lowest(p, bottom, poly_product(p, top, u))
    return found_top, found_bottom, list(u), poly_less(p, [], v), -far


def shares_of(form, function):
    """The two polynomials by which the two functions of a form sum to a function, None if there are none."""
    top, bottom, u, v, _ = form
    p = function.curve().prime()
    pair = pair_over(function, top, bottom)
    if pair is None:
        return None
    # a * u + b * (y - v) has b beside y, and a * u - b * v without it.
    above, b = pair
    a, rest = poly_divided(p, poly_sum(p, above, poly_product(p, b, v)), u)
    return None if rest else (a, b)


def pair_over(function, top, bottom):
    """The parts without y and with y of a function times bottom, divided by top: None if they are no polynomials."""
    found = product_of(function, function_of(function.curve(), bottom, [], top))
    return (found.top(), found.side()) if found.bottom() == [1] else None
