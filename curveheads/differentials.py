"""Differentials of a curve: functions z, each telling z * dx."""

from curveheads.bundles import check_bundle, joint_bundle, made_bundle, orders_of
from curveheads.curves import check_curve
from curveheads.functions import check_function_on, check_not_nought, function_of, product_of
from curveheads.orders import order_there
from curveheads.places import check_place
from curveheads.primes import prime_divisors
from curveheads.reduced import is_let
from curveheads.spaces import basis_of, dual_of


def differential_order(curve, z, place):
    """The order of a differential at a place, None for 0."""
    check_curve(curve)
    check_function_on(curve, z)
    check_place(curve, place)
    if not z:
        return None
    return order_there(z, place) + order_of_dx(place)


def differential_bundle(curve, z):
    """The bundle of the orders of a differential, not 0, at all places."""
    check_curve(curve)
    check_function_on(curve, z)
    check_not_nought(z)
    branches = [(q, []) for q in prime_divisors(curve.prime(), curve.polynomial())]
    return joint_bundle(orders_of(z), made_bundle([(place, order_of_dx(place)) for place in [(), *branches]]))


def differentials_above(curve, bundle):
    """The list of functions the sums of whose multiples by numbers tell just the differentials above a bundle."""
    check_curve(curve)
    check_bundle(curve, bundle)
    return basis_above(curve, bundle)


def is_above(curve, z, bundle):
    """Whether a differential is above a bundle."""
    check_curve(curve)
    check_function_on(curve, z)
    check_bundle(curve, bundle)
    return stands_above(z, bundle)


def without_poles(curve):
    """The list of the functions by whose multiples all differentials without poles are told."""
    check_curve(curve)
    return [function_of(curve, [], [0] * power + [1], curve.polynomial()) for power in range(curve.genus())]


def parts_without_poles(curve, z):
    """The numbers by which the differentials without poles sum to a differential, None if it has a pole."""
    check_curve(curve)
    check_function_on(curve, z)
    found = times_y(z)
    numbers = found.top()
    if found.side() or found.bottom() != [1] or len(numbers) > curve.genus():
        return None
    return numbers + [0] * (curve.genus() - len(numbers))


def basis_above(curve, bundle):
    """The list of functions the sums of whose multiples by numbers tell just the differentials above a bundle."""
    over_y = function_of(curve, [], [1], curve.polynomial())
    return [product_of(function, over_y) for function in basis_of(curve, dual_of(curve, bundle))]


def stands_above(z, bundle):
    """Whether a differential is above a bundle."""
    return is_let(dual_of(z.curve(), bundle), times_y(z))


def order_of_dx(place):
    """The order of dx at a place."""
    if place == ():
        return -3
    return 1 if place[1] == [] else 0


def times_y(z):
    """The function whose quotient by y is z: as dx / y has a zero at the far place alone, it has the orders of z * dx.

    The order at the far place alone is another one, by twice the genus less 2.
    """
    return product_of(z, function_of(z.curve(), [], [1], [1]))
