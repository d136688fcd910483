"""Rests by a prime polynomial q, nought or of a lower power than q: they are reckoned with as a field."""

from curveheads.polynomials import common_and_first, is_polynomial, poly_product, poly_rest


def is_rest(p, q, value):
    """Whether a value is a polynomial that is nought or of a lower power than q."""
    return is_polynomial(p, value) and len(value) < len(q)


def rest_product(p, q, one, other):
    """The product of two rests."""
    return poly_rest(p, poly_product(p, one, other), q)


def rest_power(p, q, one, count):
    """A rest taken so many times by itself."""
    found = [1]
    while count > 0:
        if count % 2 == 1:
            found = rest_product(p, q, found, one)
        one = rest_product(p, q, one, one)
        count = count // 2
    return found


def rest_inverse(p, q, one):
    """The rest whose product with a rest, not nought, is 1. Here q may be any polynomial without a factor in common."""
    return common_and_first(p, one, q)[1]


def rest_root(p, q, one):
    """A rest whose product with itself is a rest, None if there is none."""
    if not one:
        return []
    times, odd = twos_and_odd(p, q)
    root = rest_power(p, q, one, (odd + 1) // 2)
    # The square of root is one times left. Squaring turns left into 1 at last, and so soon for squares alone.
    left = rest_power(p, q, one, odd)
    if squared(p, q, left, times - 1) != [1]:
        return None
    if left == [1]:
        return root
    turn = rest_power(p, q, no_square(p, q), odd)
    for height in reversed(range(times - 1)):
        if squared(p, q, left, height) != [1]:
            root = rest_product(p, q, root, turn)
            left = rest_product(p, q, left, squared(p, q, turn, 1))
        turn = squared(p, q, turn, 1)
    return root


def twos_and_odd(p, q):
    """How many times 2 divides the number of all rests that are not nought, and what is left of it."""
    many = 1
    for _ in range(len(q) - 1):
        many = many * p
    times, odd = 0, many - 1
    while odd % 2 == 0:
        times, odd = times + 1, odd // 2
    return times, odd


def squared(p, q, one, times):
    """The square of a rest, the square of that, and so on, so many times."""
    for _ in range(times):
        one = rest_product(p, q, one, one)
    return one


def no_square(p, q):
    """A rest that is the square of none."""
    times, odd = twos_and_odd(p, q)
    # Where q has an even power all numbers are squares, so the first rests with an x are tried.
    at = 2 if len(q) % 2 == 0 else p
    while squared(p, q, rest_power(p, q, digits(p, at), odd), times - 1) == [1]:
        at = at + 1
    return digits(p, at)


def digits(p, count):
    """The polynomial whose numbers are the figures of a count by p, the lowest one first."""
    found = []
    while count > 0:
        found.append(count % p)
        count = count // p
    return found
