"""Residues of differentials at places, and the differentials that have told ones."""

from curveheads.bundles import made_bundle
from curveheads.curves import check_curve
from curveheads.differentials import basis_above, stands_above
from curveheads.errors import InvalidList
from curveheads.functions import check_function_on, sum_of_multiples
from curveheads.lifts import lifted_root
from curveheads.linear import numbers_summing
from curveheads.places import check_place, degree_of_place, is_place, near_places
from curveheads.polynomials import is_number, poly_power, poly_product, poly_rest, poly_sum
from curveheads.primes import prime_divisors, taken_out
from curveheads.rests import rest_inverse

MOST_TOLD = 12
MOST_DEGREES = 40


def residue(curve, z, place):
    """The residue of a differential at a place."""
    check_curve(curve)
    check_function_on(curve, z)
    check_place(curve, place)
    return residue_there(z, place)


def residues(curve, z):
    """The places at which the residue of a differential is not 0, in order, each with it."""
    check_curve(curve)
    check_function_on(curve, z)
    near = [place for q in prime_divisors(curve.prime(), z.bottom()) for place in near_places(curve, q)]
    return made_bundle([(place, residue_there(z, place)) for place in [(), *near]])


def with_residues(curve, told):
    """A function whose differential has told residues, and but simple poles there alone: None if there is none."""
    check_curve(curve)
    check_told(curve, told)
    able = basis_above(curve, simple_poles(told))
    rows = [[residue_there(one, place) for one in able] for place, _ in told]
    numbers = numbers_summing(curve.prime(), rows, len(able), [number for _, number in told])
    if numbers is None:
        return None
    return sum_of_multiples(curve, numbers, able)


def has_residues(curve, z, told):
    """Whether the differential of a function has told residues, and but simple poles there alone."""
    check_curve(curve)
    check_function_on(curve, z)
    check_told(curve, told)
    if not stands_above(z, simple_poles(told)):
        return False
    return all([residue_there(z, place) == number for place, number in told])


def check_told(curve, told):
    if not are_told_residues(curve, told):
        raise InvalidList(told)


def are_told_residues(curve, value):
    """Whether a value is a list of different places of a curve, not too many, with numbers."""
    if not isinstance(value, list) or len(value) > MOST_TOLD:
        return False
    if not all([is_told_residue(curve, item) for item in value]):
        return False
    places = [place for place, _ in value]
    if any([place in places[:at] for at, place in enumerate(places)]):
        return False
    return sum([degree_of_place(place) for place in places]) <= MOST_DEGREES


def is_told_residue(curve, value):
    """Whether a value is a tuple of a place and a number."""
    if not isinstance(value, tuple) or len(value) != 2:
        return False
    return is_number(curve.prime(), value[1]) and is_place(curve, value[0])


def simple_poles(told):
    """The bundle above which the differentials are that have but simple poles, at the told places alone."""
    return made_bundle([(place, -1) for place, _ in told])


def residue_there(z, place):
    """The residue of a differential at a place."""
    p = z.curve().prime()
    if place == ():
        return -far_number(p, poly_product(p, [2], z.top()), z.bottom()) % p
    q = place[0]
    times, others = taken_out(p, z.bottom(), q)
    high = poly_power(p, q, times)
    above = poly_rest(p, straight_part(z, place, times), high)
    return far_number(p, poly_product(p, above, rest_inverse(p, high, poly_rest(p, others, high))), high)


def far_number(p, top, bottom):
    """The number at 1 / x in the quotient of a polynomial by a monic one, written by falling powers of x."""
    rest = poly_rest(p, top, bottom)
    # Only the rest has powers of x below 0, and the first of them only if its power is 1 less than that of the bottom.
    if not rest or len(rest) < len(bottom) - 1:
        return 0
    return rest[-1]


def straight_part(z, place, count):
    """A polynomial that has, times 1 / bottom, the residue of a differential at a near place as that by its q.

    No power of q from the told count on is needed.
    """
    p, f = z.curve().prime(), z.curve().polynomial()
    if place[1]:
        return poly_sum(p, z.top(), poly_product(p, z.side(), lifted_root(p, f, place, count)))
    # The residue is that of the function and of its turned one together, over the field of x alone.
    return poly_product(p, [2], z.top())
