"""Polynomials over the numbers modulo a prime: what is one, and how to reckon with them."""

from curveheads.errors import InvalidPolynomial, InvalidPrime

PRIMES = (3, 5, 7, 11, 13)
MOST_POWER = 60


def is_whole(value):
    """Whether a value is a whole number: Booleans are none."""
    return isinstance(value, int) and not isinstance(value, bool)


def is_number(p, value):
    """Whether a value is a whole number from 0 to p - 1."""
    return is_whole(value) and 0 <= value < p


def is_polynomial(p, value):
    """Whether a value is a polynomial, of whatever power."""
    if not isinstance(value, list):
        return False
    return all([is_number(p, item) for item in value]) and value[-1:] != [0]


def check_prime(p):
    if not is_whole(p) or p not in PRIMES:
        raise InvalidPrime(p)


def check_polynomial(p, one):
    if not is_polynomial(p, one) or len(one) > MOST_POWER + 1:
        raise InvalidPolynomial(one)


def inverse(p, number):
    """The number whose product with a number, not 0, is 1."""
    return [other for other in range(1, p) if number * other % p == 1][0]


def poly_trimmed(numbers):
    """The polynomial of some numbers, the last of which may be 0."""
    size = len(numbers)
    while size > 0 and numbers[size - 1] == 0:
        size -= 1
    return numbers[:size]


def poly_monic(p, one):
    """A polynomial, not nought, divided by its leading number."""
    turn = inverse(p, one[-1])
    return [number * turn % p for number in one]


def poly_less(p, one, other):
    """A polynomial less another one."""
    shared = [(left - right) % p for left, right in zip(one, other)]
    beyond = [-number % p for number in other[len(one):]]
    return poly_trimmed(shared + one[len(other):] + beyond)


def poly_sum(p, one, other):
    """The sum of two polynomials."""
    return poly_less(p, one, poly_less(p, [], other))


def poly_product(p, one, other):
    """The product of two polynomials."""
    if not one or not other:
        return []
    sums = [0] * (len(one) + len(other) - 1)
    for at, left in enumerate(one):
        for by, right in enumerate(other):
            sums[at + by] += left * right
    return [number % p for number in sums]


def poly_divided(p, one, other):
    """The quotient and the rest of a polynomial divided by another one, not nought."""
    rest = list(one)
    turn = inverse(p, other[-1])
    steps = len(one) - len(other) + 1
    quotient = [0] * steps
    for at in reversed(range(steps)):
        times = rest[at + len(other) - 1] * turn % p
        quotient[at] = times
        if times:
            for by, number in enumerate(other):
                rest[at + by] = (rest[at + by] - times * number) % p
    return quotient, poly_trimmed(rest[:len(other) - 1])


def poly_power(p, one, count):
    """A polynomial taken so many times by itself."""
    found = [1]
    for _ in range(count):
        found = poly_product(p, found, one)
    return found


def poly_rest(p, one, other):
    """What a polynomial leaves if it is divided by another one, not nought."""
    return poly_divided(p, one, other)[1]


def poly_common(p, one, other):
    """The greatest common factor, monic, of two polynomials, not both nought."""
    while other:
        one, other = other, poly_divided(p, one, other)[1]
    return poly_monic(p, one)


def poly_slope(p, one):
    """The slope of a polynomial by x."""
    return poly_trimmed([at * number % p for at, number in enumerate(one)][1:])
