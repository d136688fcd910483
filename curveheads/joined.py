"""Joined bundles: bundles that differ by that of a function."""

from curveheads.bundles import check_bundle, degree_of_bundle, joint_bundle, multiple_of_bundle, number_there
from curveheads.curves import check_curve
from curveheads.forms import joint_form, made_form, opposite_of, shares_of
from curveheads.functions import Function, far_order, function_of, norm_of_pair, quotient_of
from curveheads.polynomials import (
    poly_bezout, poly_common, poly_divided, poly_less, poly_monic, poly_product, poly_rest)
from curveheads.reduced import pair_height, reduced_pairs


def least_form(curve, bundle):
    """The least form of a bundle, and a function by whose bundle the bundle is more than that of the form."""
    check_curve(curve)
    check_bundle(curve, bundle)
    return least_joined(curve, bundle)


def joining(curve, one, other):
    """A function that shows that two bundles are joined, None if they are not."""
    check_two_bundles(curve, one, other)
    form, function = least_joined(curve, one)
    more_form, more_function = least_joined(curve, other)
    if form != more_form:
        return None
    return quotient_of(function, more_function)


def is_joining(curve, one, other, value):
    """Whether a value is a function that shows that two bundles are joined."""
    check_two_bundles(curve, one, other)
    if not isinstance(value, Function) or value.curve() != curve or not value:
        return False
    wanted = joint_bundle(one, multiple_of_bundle(other, -1))
    if degree_of_bundle(wanted) != 0 or far_order(value) != -number_there(wanted, ()):
        return False
    # All orders sum to nought, each times a degree: so none is greater than is wanted unless another one is less.
    return shares_of(made_form(curve, wanted), value) is not None


def is_of_function(curve, bundle):
    """Whether a bundle is that of a function."""
    check_curve(curve)
    check_bundle(curve, bundle)
    return least_joined(curve, bundle)[0] == ([1], [1], [1], [], 0)


def check_two_bundles(curve, one, other):
    check_curve(curve)
    check_bundle(curve, one)
    check_bundle(curve, other)


def least_joined(curve, bundle):
    """The least form of a bundle, and a function by whose bundle the bundle is more than that of the form."""
    p = curve.prime()
    top, bottom, u, v, _ = made_form(curve, bundle)
    even, odd = reduced_pairs(curve, u, v)
    a, b = even if pair_height(curve, even) < pair_height(curve, odd) else odd
    # Of all functions that have the zeros which u and y - v have in common, a + b * y has the fewest others: no more
    # than the genus tells. The places turned about make up a function with these, and nought else at near places.
    opposite = opposite_of(curve, ([1], [1], u, v, 0))
    _, _, others, root, _ = joint_form(curve, form_of_pair(curve, a, b), opposite)
    function = function_of(
        curve, poly_product(p, top, a), poly_product(p, top, b), poly_product(p, bottom, others))
    return ([1], [1], others, poly_less(p, [], root), degree_of_bundle(bundle) - len(others) + 1), function


def form_of_pair(curve, a, b):
    """The form of the bundle of the function a + b * y, not nought, but for its number at the far place."""
    p = curve.prime()
    shared = poly_common(p, a, b)
    a, b = poly_divided(p, a, shared)[0], poly_divided(p, b, shared)[0]
    norm = poly_monic(p, norm_of_pair(curve, a, b))
    # Where the norm is nought, y is nought less a / b, as no prime polynomial divides b and the norm.
    turn = poly_bezout(p, norm, b)[2]
    return shared, [1], norm, poly_rest(p, poly_product(p, poly_less(p, [], a), turn), norm), 0
