"""The places of a curve: the far one, and the near ones over prime polynomials."""

from curveheads.curves import check_curve
from curveheads.errors import InvalidNumber, InvalidPlace, InvalidPolynomial
from curveheads.polynomials import is_whole, poly_less, poly_rest
from curveheads.primes import is_prime, primes_of
from curveheads.rests import is_rest, rest_product, rest_root


def is_place(curve, value):
    """Whether a value is a place of a curve, with a prime polynomial of a power of at most 12."""
    check_curve(curve)
    if not isinstance(value, tuple):
        return False
    if len(value) == 2:
        return is_near_place(curve, value[0], value[1])
    return len(value) == 0


def place_degree(curve, place):
    """The degree of a place."""
    check_curve(curve)
    check_place(curve, place)
    return degree_of_place(place)


def place_turned(curve, place):
    """The place turned about: only plain ones change."""
    check_curve(curve)
    check_place(curve, place)
    return turned_about(curve, place)


def places_over(curve, q):
    """The list of the places with a prime polynomial, in order."""
    check_curve(curve)
    if not is_prime(curve.prime(), q):
        raise InvalidPolynomial(q)
    return near_places(curve, q)


def places_of(curve, degree):
    """The list of all places of a degree, in order."""
    check_curve(curve)
    p = curve.prime()
    if not is_whole(degree) or not 1 <= degree <= most_degree(p):
        raise InvalidNumber(degree)
    found = [()] if degree == 1 else []
    for power in range(1, degree + 1):
        for q in primes_of(p, power):
            found.extend([place for place in near_places(curve, q) if degree_of_place(place) == degree])
    return found


def check_place(curve, place):
    if not is_place(curve, place):
        raise InvalidPlace(place)


def is_near_place(curve, q, w):
    """Whether two values make a near place."""
    p = curve.prime()
    if not is_prime(p, q):
        return False
    wanted = poly_rest(p, curve.polynomial(), q)
    if w is None:
        return rest_root(p, q, wanted) is None
    return is_rest(p, q, w) and rest_product(p, q, w, w) == wanted


def is_wide(place):
    """Whether a place is a wide one."""
    return place != () and place[1] is None


def degree_of_place(place):
    if place == ():
        return 1
    power = len(place[0]) - 1
    if is_wide(place):
        return 2 * power
    return power


def turned_about(curve, place):
    """The place turned about."""
    if place == ():
        return ()
    q, w = place
    if w is None:
        return list(q), None
    return list(q), poly_less(curve.prime(), [], w)


def near_places(curve, q):
    """The places with a polynomial that is known to be prime, in order."""
    p = curve.prime()
    root = rest_root(p, q, poly_rest(p, curve.polynomial(), q))
    if root is None or root == []:
        return [(list(q), root)]
    return [(list(q), w) for w in sorted([root, poly_less(p, [], root)])]


def most_degree(p):
    """The greatest degree whose places are listed."""
    if p <= 7:
        return 3
    return 2
