"""Roots, quotients and their digits by powers of a prime polynomial q: how functions begin where q is nought."""

from curveheads.polynomials import poly_divided, poly_less, poly_power, poly_product, poly_rest
from curveheads.primes import taken_out
from curveheads.rests import rest_inverse


def lifted_root(p, f, place, count):
    """The polynomial that differs from the w of a plain place by a multiple of q, its square from f by one of q taken
    so many times; it is of a lower power than that.
    """
    q, root = place
    turn = rest_inverse(p, q, poly_product(p, [2], root))
    known, high = 1, q
    while known < count:
        # Newton's way: the error is a multiple of high, so its quotient by twice the root is needed by high alone.
        error = poly_less(p, poly_product(p, root, root), f)
        known, high = 2 * known, poly_product(p, high, high)
        root = poly_rest(p, poly_less(p, root, poly_product(p, poly_rest(p, error, high), turn)), high)
        missing = poly_less(p, [2], poly_rest(p, poly_product(p, poly_product(p, [2], root), turn), high))
        turn = poly_rest(p, poly_product(p, turn, missing), high)
    return poly_rest(p, root, poly_power(p, q, count))


def digits_of_quotient(p, modulus, top, bottom, first, count):
    """The rests by q that stand, in the quotient of two polynomials, at so many powers of a sign, from the first on.

    The modulus is a tuple (q, bend), and the sign q divided by bend. No power of the sign below the first is needed.
    """
    q, bend = modulus
    if not top:
        return [[] for _ in range(count)]
    above, top = taken_out(p, top, q)
    below, bottom = taken_out(p, bottom, q)
    times = above - below
    skipped = min(times - first, count)
    high = poly_power(p, q, count - skipped)
    for _ in range(abs(times)):
        # As q is the sign times bend, each q that was taken out leaves a bend behind.
        if times > 0:
            top = poly_rest(p, poly_product(p, top, bend), high)
        else:
            bottom = poly_rest(p, poly_product(p, bottom, bend), high)
    if skipped < count:
        top = poly_product(p, top, rest_inverse(p, high, poly_rest(p, bottom, high)))
    return [[] for _ in range(skipped)] + digits_by(p, modulus, top, count - skipped)


def digits_by(p, modulus, one, count):
    """The rests by q that stand, in a polynomial, at so many powers of the sign, from the number 1 on."""
    q, bend = modulus
    high = poly_power(p, q, count)
    found = []
    for _ in range(count):
        one, rest = poly_divided(p, poly_rest(p, one, high), q)
        found.append(rest)
        one = poly_product(p, one, bend)
    return found


def shifted_quotient(p, q, top, bottom, shift, count):
    """The quotient of two polynomials, times q so many times, up to multiples of q taken count times.

    No q is left below: the polynomial that is returned is of a lower power than q taken count times.
    """
    if not top:
        return []
    above, top = taken_out(p, top, q)
    below, bottom = taken_out(p, bottom, q)
    times = shift + above - below
    if times >= count:
        return []
    high = poly_power(p, q, count)
    turn = rest_inverse(p, high, poly_rest(p, bottom, high))
    found = poly_product(p, poly_rest(p, top, high), poly_product(p, turn, poly_power(p, q, times)))
    return poly_rest(p, found, high)
