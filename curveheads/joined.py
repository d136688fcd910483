"""Joined bundles: bundles that differ by that of a function."""

from curveheads.bundles import check_bundle, degree_of_bundle, joint_bundle, multiple_of_bundle, number_there
from curveheads.curves import check_curve
from curveheads.forms import made_form, missing_of, shares_of
from curveheads.functions import Function, far_order, function_of, product_of, quotient_of
from curveheads.polynomials import poly_divided, poly_less, poly_monic, poly_rest


def least_form(curve, bundle):
    """The least form of a bundle, and a function by whose bundle the bundle is more than that of the form."""
    check_curve(curve)
    check_bundle(curve, bundle)
    return least_joined(curve, bundle)


def joining(curve, one, other):
    """A function that shows that two bundles are joined, None if they are not."""
    check_two_bundles(curve, one, other)
    form, function = least_joined(curve, one)
    more_form, more_function = least_joined(curve, other)
    if form != more_form:
        return None
    return quotient_of(function, more_function)


def is_joining(curve, one, other, value):
    """Whether a value is a function that shows that two bundles are joined."""
    check_two_bundles(curve, one, other)
    if not isinstance(value, Function) or value.curve() != curve or not value:
        return False
    wanted = joint_bundle(one, multiple_of_bundle(other, -1))
    if degree_of_bundle(wanted) != 0 or far_order(value) != -number_there(wanted, ()):
        return False
    # All orders sum to nought, each times a degree: so none is greater than is wanted unless another one is less.
    return shares_of(made_form(curve, wanted), value) is not None


def is_of_function(curve, bundle):
    """Whether a bundle is that of a function."""
    check_curve(curve)
    check_bundle(curve, bundle)
    return least_joined(curve, bundle)[0] == ([1], [1], [1], [], 0)


def check_two_bundles(curve, one, other):
    check_curve(curve)
    check_bundle(curve, one)
    check_bundle(curve, other)


def least_joined(curve, bundle):
    """The least form of a bundle, and a function by whose bundle the bundle is more than that of the form."""
    p = curve.prime()
    top, bottom, u, v, _ = made_form(curve, bundle)
    function = function_of(curve, top, [], bottom)
    while len(u) - 1 > curve.genus():
        # u times its cofactor in f - v * v is, but for a number, the norm of y - v: so the bundle of u and v is more
        # than that of the cofactor and the opposite of v by the bundle of y - v, divided by the cofactor.
        cofactor = poly_monic(p, poly_divided(p, missing_of(curve, v), u)[0])
        opposite = poly_less(p, [], v)
        function = product_of(function, function_of(curve, opposite, [1], cofactor))
        u, v = cofactor, poly_rest(p, opposite, cofactor)
    return ([1], [1], u, v, degree_of_bundle(bundle) - len(u) + 1), function
