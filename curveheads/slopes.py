"""Which functions are slopes, and which are slopes divided by their function."""

from curveheads.bundles import check_bundle
from curveheads.curves import check_curve
from curveheads.differentials import basis_above
from curveheads.functions import check_function, function_of, less_of, pair_product, sum_of_multiples
from curveheads.linear import null_sums
from curveheads.parts import last_part, over_pth_powers, pth_power, shared_bottom
from curveheads.polynomials import (
    inverse, poly_divided, poly_less, poly_power, poly_product, poly_slope, poly_trimmed)


def whose_slope(one):
    """The function, with nought for its first part, whose slope is a function: None if there is none."""
    check_function(one)
    curve = one.curve()
    p = curve.prime()
    straight, slanted = over_pth_powers(one)
    if any(straight[p - 1::p]) or any(slanted[p - 1::p]):
        return None
    # All p-th powers are as numbers for slopes: that of the bottom, and that of y / f, which is y divided by bend.
    bend = poly_power(p, curve.polynomial(), (p + 1) // 2)
    top = poly_product(p, risen(p, straight), bend)
    return function_of(curve, top, risen(p, slanted), poly_product(p, pth_power(p, one.bottom()), bend))


def whose_divided_slope(one):
    """Any function, not nought, whose slope is it times a function: None if there is none."""
    check_function(one)
    if last_part(one) != one:
        return None
    # A step goes from a function to its slope, less it times the told one, and p steps lead to 0 from anywhere if that
    # is its own descent. So the last function that is not 0 has a step of 0.
    curve, count, pair = one.curve(), 0, ([1], [])
    after = stepped(one, pair, count)
    while after[0] or after[1]:
        count, pair = count + 1, after
        after = stepped(one, pair, count)
    bottom = poly_product(curve.prime(), one.bottom(), curve.polynomial())
    return function_of(curve, pair[0], pair[1], poly_power(curve.prime(), bottom, count))


def slopes_in(curve, bundle):
    """Independent slopes the sums of whose multiples by numbers are just the slopes that tell differentials above a
    bundle.
    """
    check_curve(curve)
    check_bundle(curve, bundle)
    able = basis_above(curve, bundle)
    return nulled(curve, able, [last_part(one) for one in able])


def divided_slopes_in(curve, bundle):
    """The like for slopes that are divided by their function."""
    check_curve(curve)
    check_bundle(curve, bundle)
    able = basis_above(curve, bundle)
    return nulled(curve, able, [less_of(last_part(one), one) for one in able])


def risen(p, one):
    """A polynomial without numbers at the powers p - 1, 2 * p - 1 and so on whose slope is a polynomial without such.
    """
    return poly_trimmed([0] + [number * inverse(p, (at + 1) % p) % p if number != 0 else 0
                               for at, number in enumerate(one)])


def stepped(one, pair, count):
    """The slope of a function less it times a told one.

    The function is told by a pair of polynomials over a bottom: f times that of the told one, taken as often as the
    count tells. What is found is such a pair with a count of 1 more.
    """
    p, f = one.curve().prime(), one.curve().polynomial()
    top, side = pair
    bottom = poly_product(p, one.bottom(), f)
    fall = poly_product(p, poly_slope(p, bottom), poly_trimmed([count]))
    # The slope of y is y times half the slope of f, divided by f.
    bend = poly_product(p, poly_product(p, one.bottom(), poly_slope(p, f)), [inverse(p, 2)])
    rise = poly_less(p, poly_product(p, bottom, poly_slope(p, top)), poly_product(p, fall, top))
    turn = poly_less(p, poly_product(p, bottom, poly_slope(p, side)), poly_product(p, poly_less(p, fall, bend), side))
    taken = pair_product(one.curve(), (one.top(), one.side()), pair)
    return poly_less(p, rise, poly_product(p, taken[0], f)), poly_less(p, turn, poly_product(p, taken[1], f))


def nulled(curve, functions, images):
    """The sums of multiples by numbers of functions for which those of their images are 0: independent ones."""
    p = curve.prime()
    bottom = shared_bottom(p, images)
    pairs = []
    for image in images:
        above = poly_divided(p, bottom, image.bottom())[0]
        pairs.append((poly_product(p, above, image.top()), poly_product(p, above, image.side())))
    return [sum_of_multiples(curve, numbers, functions) for numbers in null_sums(p, pairs)]
