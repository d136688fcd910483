"""Bundles of places: places with whole numbers."""

from curveheads.curves import check_curve
from curveheads.errors import InvalidBundle, InvalidNumber
from curveheads.functions import check_function_on, check_not_nought, norm_of_pair
from curveheads.orders import order_there
from curveheads.places import check_place, degree_of_place, is_place, near_places, turned_about
from curveheads.polynomials import is_whole, poly_monic
from curveheads.primes import prime_divisors

MOST_TIMES = 20


def is_bundle(curve, value):
    """Whether a value is a bundle of places of a curve."""
    check_curve(curve)
    if not isinstance(value, list) or not all([is_numbered_place(curve, item) for item in value]):
        return False
    keys = [place_key(place) for place, _ in value]
    return all([before < after for before, after in zip(keys, keys[1:])])


def number_at(curve, bundle, place):
    """The number of a bundle at a place."""
    check_curve(curve)
    check_bundle(curve, bundle)
    check_place(curve, place)
    return number_there(bundle, place)


def bundle_degree(curve, bundle):
    """The sum of the numbers of a bundle, each times the degree of its place."""
    check_curve(curve)
    check_bundle(curve, bundle)
    return degree_of_bundle(bundle)


def bundle_sum(curve, one, other):
    """The bundle with the sum of both numbers at each place."""
    check_curve(curve)
    check_bundle(curve, one)
    check_bundle(curve, other)
    return joint_bundle(one, other)


def bundle_times(curve, bundle, count):
    """The bundle with so many times the number at each place."""
    check_curve(curve)
    check_bundle(curve, bundle)
    if not is_whole(count) or abs(count) > MOST_TIMES:
        raise InvalidNumber(count)
    return multiple_of_bundle(bundle, count)


def bundle_turned(curve, bundle):
    """The bundle with the same numbers at the places turned about."""
    check_curve(curve)
    check_bundle(curve, bundle)
    return made_bundle([(turned_about(curve, place), number) for place, number in bundle])


def bundle_of(curve, function):
    """The bundle of the orders of a function, not nought, at all places."""
    check_curve(curve)
    check_function_on(curve, function)
    check_not_nought(function)
    return orders_of(function)


def poles_of(curve, function):
    """The bundle of the orders below 0 of a function, not nought, with the other sign."""
    return [(place, -number) for place, number in bundle_of(curve, function) if number < 0]


def check_bundle(curve, bundle):
    if not is_bundle(curve, bundle):
        raise InvalidBundle(bundle)


def is_numbered_place(curve, value):
    """Whether a value is a tuple of a place and a whole number, not 0."""
    if not isinstance(value, tuple) or len(value) != 2:
        return False
    return is_whole(value[1]) and value[1] != 0 and is_place(curve, value[0])


def place_key(place):
    """What stands in Python's order as a place does in the order of places."""
    if place == ():
        return 0, [], []
    q, w = place
    return len(q), q, w or []


def made_bundle(numbered):
    """The bundle of tuples of different places and numbers, which may be 0, in whatever order."""
    rows = sorted([(place_key(place), place, number) for place, number in numbered], key=lambda row: row[0])
    return [(place_copy(place), number) for _, place, number in rows if number != 0]


def place_copy(place):
    """A place that shares no list with the given one."""
    if place == ():
        return ()
    q, w = place
    return list(q), None if w is None else list(w)


def number_there(bundle, place):
    """The number at a place, 0 where a bundle names none."""
    return sum([number for named, number in bundle if named == place])


def degree_of_bundle(bundle):
    return sum([number * degree_of_place(place) for place, number in bundle])


def joint_bundle(one, other):
    """The bundle with the sum of both numbers at each place."""
    added = [(place, number + number_there(other, place)) for place, number in one]
    named = [place for place, _ in one]
    return made_bundle(added + [(place, number) for place, number in other if place not in named])


def multiple_of_bundle(bundle, count):
    """The bundle with so many times the number at each place."""
    return made_bundle([(place, count * number) for place, number in bundle])


def orders_of(function):
    """The bundle of the orders of a function, not nought."""
    curve = function.curve()
    p = curve.prime()
    primes = prime_divisors(p, poly_monic(p, norm_of_pair(curve, function.top(), function.side())))
    primes.extend([q for q in prime_divisors(p, function.bottom()) if q not in primes])
    places = [()] + [place for q in primes for place in near_places(curve, q)]
    return made_bundle([(place, order_there(function, place)) for place in places])
