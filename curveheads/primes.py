"""Prime polynomials: which they are, how many, and which divide a polynomial."""

from curveheads.errors import InvalidNumber, InvalidPolynomial, TooMany
from curveheads.linear import null_lists
from curveheads.polynomials import (
    MOST_POWER, check_polynomial, check_prime, is_polynomial, is_whole, poly_common, poly_divided, poly_less,
    poly_monic, poly_product, poly_rest, poly_slope, poly_sum, poly_trimmed)
from curveheads.rests import rest_power

MOST_PRIME_POWER = 12
MOST_PRIMES = 1000


def is_prime(p, value):
    """Whether a value is a prime polynomial of a power of at most 12."""
    check_prime(p)
    if not is_polynomial(p, value) or not 1 <= len(value) - 1 <= MOST_PRIME_POWER:
        return False
    return value[-1] == 1 and prime_divisors(p, value) == [value]


def how_many_primes(p, power):
    """How many prime polynomials have a power from 1 to 60."""
    check_prime(p)
    check_power(power)
    return prime_count(p, power)


def primes_of(p, power):
    """The list of the prime polynomials of a power, in order, if they are at most 1,000."""
    check_prime(p)
    check_power(power)
    many = prime_count(p, power)
    if many > MOST_PRIMES:
        raise TooMany(many)
    return prime_list(p, power)


def factors(p, one):
    """The prime polynomials that divide a polynomial, in order, each with how many times it does."""
    check_prime(p)
    check_polynomial(p, one)
    if not one:
        raise InvalidPolynomial(one)
    monic = poly_monic(p, one)
    return sorted([(prime, taken_out(p, monic, prime)[0]) for prime in prime_divisors(p, monic)])


def check_power(power):
    if not is_whole(power) or not 1 <= power <= MOST_POWER:
        raise InvalidNumber(power)


def prime_count(p, power):
    # The product of all primes whose power divides n is x ** (p ** n) - x, so the counts follow from one another.
    counts = [0]
    monics = 1
    for size in range(1, power + 1):
        monics = monics * p
        lower = sum([part * counts[part] for part in range(1, size) if size % part == 0])
        counts.append((monics - lower) // size)
    return counts[power]


def monic_list(p, power):
    """All monic polynomials of a power, in order."""
    found = [[1]]
    for _ in range(power):
        found = [[number, *rest] for number in range(p) for rest in found]
    return found


def prime_list(p, power):
    # Sieving is far quicker than judging each polynomial by itself.
    divisible = {}
    for low in range(1, power // 2 + 1):
        cofactors = monic_list(p, power - low)
        for prime in prime_list(p, low):
            for cofactor in cofactors:
                divisible[tuple(poly_product(p, prime, cofactor))] = True
    return [one for one in monic_list(p, power) if tuple(one) not in divisible]


def taken_out(p, one, prime):
    """How many times a prime polynomial divides a polynomial, and what is left without it."""
    times = 0
    quotient, rest = poly_divided(p, one, prime)
    while not rest:
        times += 1
        one = quotient
        quotient, rest = poly_divided(p, one, prime)
    return times, one


def prime_divisors(p, one):
    """The prime polynomials that divide a monic polynomial, each once, in whatever order."""
    repeated = poly_common(p, one, poly_slope(p, one))
    found = separated(p, poly_divided(p, one, repeated)[0])
    for prime in found:
        one = taken_out(p, one, prime)[1]
    if len(one) == 1:
        return found
    # The slope does not show primes that divide a multiple of p times: a p-th power is left of them.
    return found + prime_divisors(p, one[::p])


def separated(p, one):
    """The prime polynomials whose product is a monic polynomial without double factors."""
    if len(one) <= MOST_POWER + 1:
        return separated_at_once(p, one)
    found, images = [], [[0, 1]]
    while len(one) > 2 * len(images):
        # The product of all primes whose power divides n is x ** (p ** n) - x.
        image = rest_power(p, one, images[-1], p)
        alike = poly_common(p, one, poly_less(p, image, [0, 1]))
        if len(alike) > 1:
            found.extend(separated_alike(p, alike, images, images))
            one = poly_divided(p, one, alike)[0]
        images = [poly_rest(p, told, one) for told in [*images, image]]
    if len(one) > 1:
        found.append(one)
    return found


def separated_alike(p, one, images, powers):
    """The prime polynomials of one power whose product is a monic polynomial.

    The images are x, its p-th power, the p-th power of that and so on, as many as the power of the primes tells.
    """
    if len(one) == len(images) + 1:
        return [one]
    # By each prime the sum of their powers with one exponent leaves a number. Two primes are told from one another by
    # some exponent, as sums of multiples of powers of x are all rests.
    total = []
    for power in powers:
        total = poly_sum(p, total, power)
    found = []
    for piece in separated_by(p, one, total):
        within = [poly_rest(p, image, piece) for image in images]
        higher = [poly_rest(p, poly_product(p, image, power), piece) for image, power in zip(within, powers)]
        found.extend(separated_alike(p, piece, within, higher))
    return found


def separated_at_once(p, one):
    """The prime polynomials whose product is a monic polynomial without double factors: quick for low powers."""
    if len(one) == 1:
        return []
    # Berlekamp's way: there are as many independent rests that are their own p-th power as there are primes,
    # and such a rest differs by a number from a multiple of each prime.
    stable = stable_rests(p, one)
    parts = [list(one)]
    for rest in stable:
        if len(parts) < len(stable):
            parts = [piece for part in parts for piece in separated_by(p, part, rest)]
    return parts


def separated_by(p, part, rest):
    """The factors of a polynomial, sorted out by the number that a stable rest leaves by their primes."""
    within = poly_divided(p, rest, part)[1]
    if len(within) <= 1:
        return [part]
    pieces = [poly_common(p, part, poly_less(p, within, [number])) for number in range(p)]
    return [piece for piece in pieces if len(piece) > 1]


def stable_rests(p, one):
    """Independent polynomials, as many as can be, that are their own p-th power but for a multiple of one."""
    size = len(one) - 1
    images = []
    image = [1]
    for at in range(size):
        images.append(image + [0] * (size - len(image)))
        images[at][at] = (images[at][at] - 1) % p
        image = poly_divided(p, [0] * p + image, one)[1]
    rows = [[column[row] for column in images] for row in range(size)]
    return [poly_trimmed(numbers) for numbers in null_lists(p, rows, size)]
