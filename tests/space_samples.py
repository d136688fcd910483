"""Bundles of told degrees, and what a bundle lets, and is below, by the orders alone."""

from curveheads.functions import Function, product_of
from tests import reckoning
from tests.bundle_samples import in_order, mixed_bundles, some_bundles
from tests.samples import Stream, plain_functions, tops, trimmed, wrong_functions


def degree_of(bundle):
    return sum(number * reckoning.degree(place) for place, number in bundle)


def with_degree(bundle, wanted):
    """A bundle with another number at the far place, so that its degree is as wanted."""
    near = [(place, number) for place, number in bundle if place]
    return in_order([((), wanted - degree_of(near)), *near])


def samples(curve, seed, many=2):
    """Bundles without a plan, and bundles of the degrees at which the sizes of spaces turn."""
    told = some_bundles(curve) + mixed_bundles(curve, seed, many, 2)
    g = curve.genus()
    degrees = (-1, 0, g, 2 * g - 2, 2 * g - 1, 2 * g, g + 3)
    turned = [with_degree(bundle, degrees[at % 7]) for at, bundle in enumerate(told + told)]
    return told[::2] + turned


def near_orders_are_let(curve, bundle, one):
    """Whether a function, not nought, has at each near place at least the order that a bundle asks for."""
    p, f = curve.prime(), curve.polynomial()
    named = {repr(place): number for place, number in bundle}
    places = [place for place, _ in bundle if place]
    left = one.bottom()
    for place in places:
        while not reckoning.rest(p, left, place[0]):
            left = reckoning.quotient(p, left, place[0])
    # Over each prime of the bottom there is a pole, at the one place or at the one turned about.
    if len(left) > 1:
        return False
    turned = [(place[0], reckoning.less(p, [], place[1])) for place in places if place[1]]
    return all(reckoning.order(p, f, tops(one), place) >= -named.get(repr(place), 0) for place in places + turned)


def is_let(curve, bundle, one):
    """Whether a function is nought, or has at each place at least the order that a bundle asks for."""
    if not one:
        return True
    far = sum(number for place, number in bundle if not place)
    order = reckoning.order(curve.prime(), curve.polynomial(), tops(one), ())
    return order >= -far and near_orders_are_let(curve, bundle, one)


def functions_of_other_curves(curve):
    """Values that are no functions of a curve, with those of others."""
    others = [type(curve)(curve.prime(), [1, 1]), type(curve)(3 if curve.prime() > 3 else 5, [1, 1])]
    found = [Function(other, *one) for other in others for one in [([1], [], [1]), ([], [1], [1]), ([], [], [1])]]
    return wrong_functions() + found


def order_of(curve, z, place):
    """The order of a differential, by that of its function."""
    found = reckoning.order(curve.prime(), curve.polynomial(), tops(z), place)
    return found - 3 if not place else found + 1 if place[1] == [] else found


def times_y(curve, z):
    return product_of(z, Function(curve, [], [1], [1]))


def is_above_by_orders(curve, z, bundle):
    """Whether a differential is above a bundle: z * dx is z * y times dx / y, whose only zero is the far place."""
    opposite = [(place, -number) for place, number in bundle if place]
    far = 2 * curve.genus() - 2 - sum(number for place, number in bundle if not place)
    return is_let(curve, [((), far)] * bool(far) + opposite, times_y(curve, z))


def low_functions(curve, seed, many):
    """Functions whose norms have no prime factors of a power above 12."""
    p, stream = curve.prime(), Stream(seed)
    found = [one for one in plain_functions(curve) if one]
    for at in range(many):
        top, side = stream.full_polynomial(p, at % 6), stream.polynomial(p, min(2, at % 4))
        found.append(Function(curve, top, trimmed(side), stream.full_polynomial(p, at % 4)))
    return found
