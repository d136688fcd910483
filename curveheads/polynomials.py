"""Polynomials over the numbers modulo a prime: what is one, and how to reckon with them."""

from curveheads.errors import InvalidPolynomial, InvalidPrime

PRIMES = (3, 5, 7, 11, 13)
MOST_POWER = 60
# Beyond these lengths it is quicker to reckon with blocks of numbers, each packed into one whole number. The blocks are
# so short that no whole number in between has more than 900 figures.
SHORT_FACTOR = 12
SHORT_QUOTIENT = 100
BLOCK = 60
# Six hexadecimal figures hold any sum that stands in a product: they have room for 100,000 products of two numbers.
FIGURES = ("000000", "000001", "000002", "000003", "000004", "000005", "000006",
           "000007", "000008", "000009", "00000a", "00000b", "00000c")
WIDTH = 6


def is_whole(value):
    """Whether a value is a whole number: Booleans are none."""
    return isinstance(value, int) and not isinstance(value, bool)


def is_number(p, value):
    """Whether a value is a whole number from 0 to p - 1."""
    return is_whole(value) and 0 <= value < p


def is_polynomial(p, value):
    """Whether a value is a polynomial, of whatever power."""
    if not isinstance(value, list):
        return False
    return all([is_number(p, item) for item in value]) and value[-1:] != [0]


def check_prime(p):
    if not is_whole(p) or p not in PRIMES:
        raise InvalidPrime(p)


def check_polynomial(p, one):
    if not is_polynomial(p, one) or len(one) > MOST_POWER + 1:
        raise InvalidPolynomial(one)


def inverse(p, number):
    """The number whose product with a number, not 0, is 1."""
    return [other for other in range(1, p) if number * other % p == 1][0]


def poly_trimmed(numbers):
    """The polynomial of some numbers, the last of which may be 0."""
    size = len(numbers)
    while size > 0 and numbers[size - 1] == 0:
        size -= 1
    return numbers[:size]


def poly_monic(p, one):
    """A polynomial, not nought, divided by its leading number."""
    turn = inverse(p, one[-1])
    return [number * turn % p for number in one]


def poly_less(p, one, other):
    """A polynomial less another one."""
    shared = [(left - right) % p for left, right in zip(one, other)]
    beyond = [-number % p for number in other[len(one):]]
    return poly_trimmed(shared + one[len(other):] + beyond)


def poly_sum(p, one, other):
    """The sum of two polynomials."""
    return poly_less(p, one, poly_less(p, [], other))


def poly_product(p, one, other):
    """The product of two polynomials."""
    if not one or not other:
        return []
    if min(len(one), len(other)) > SHORT_FACTOR:
        return packed_product(p, one, other)
    if len(one) > len(other):
        one, other = other, one
    size = len(other)
    sums = [0] * (len(one) + size - 1)
    for at, number in enumerate(one):
        if number != 0:
            sums[at:at + size] = [before + number * right for before, right in zip(sums[at:at + size], other)]
    return [number % p for number in sums]


def poly_divided(p, one, other):
    """The quotient and the rest of a polynomial divided by another one, not nought."""
    steps, size = len(one) - len(other) + 1, len(other)
    if min(steps, size) > SHORT_QUOTIENT:
        return divided_at_once(p, one, other)
    rest = list(one)
    turn = inverse(p, other[-1])
    quotient = [0] * steps
    for at in reversed(range(steps)):
        times = rest[at + size - 1] * turn % p
        quotient[at] = times
        if times:
            rest[at:at + size] = [(left - times * number) % p for left, number in zip(rest[at:at + size], other)]
    return quotient, poly_trimmed(rest[:size - 1])


def packed_product(p, one, other):
    """The product of two polynomials, neither nought, block by block."""
    left, right = packed_blocks(one), packed_blocks(other)
    sums = [0] * (len(left) + len(right) - 1)
    for at, high in enumerate(left):
        for by, low in enumerate(right):
            sums[at + by] += high * low
    found = [0] * (BLOCK * (len(sums) + 1))
    for at, total in enumerate(sums):
        # The product of two blocks reaches into the place of the next one.
        numbers, start = unpacked(total), BLOCK * at
        end = start + len(numbers)
        found[start:end] = [before + number for before, number in zip(found[start:end], numbers)]
    return [number % p for number in found[:len(one) + len(other) - 1]]


def packed_blocks(one):
    """The whole numbers whose hexadecimal figures tell the blocks of a polynomial, the last number of each first."""
    blocks = [one[at:at + BLOCK] for at in range(0, len(one), BLOCK)]
    return [int("".join([FIGURES[number] for number in block[::-1]]), 16) for block in blocks]


def unpacked(total):
    """The numbers that the hexadecimal figures of a whole number tell, as many as it has figures for."""
    text = f"{total:x}"
    many = (len(text) - 1) // WIDTH + 1
    text = text.zfill(many * WIDTH)
    return [int(text[at:at + WIDTH], 16) for at in reversed(range(0, many * WIDTH, WIDTH))]


def divided_at_once(p, one, other):
    """The quotient and the rest of a polynomial divided by one of no greater power."""
    # Read from its last number on, a quotient is a product with the series that 1 divided by the other one is.
    steps = len(one) - len(other) + 1
    quotient = poly_product(p, one[::-1][:steps], begun_inverse(p, other[::-1], steps))[:steps][::-1]
    return quotient, poly_less(p, one, poly_product(p, quotient, other))


def begun_inverse(p, one, size):
    """So many numbers, the first ones of the series whose product with a polynomial, not 0 at its start, is 1."""
    found = [inverse(p, one[0])]
    while len(found) < size:
        # The product is 1 less an error, and 1 more this error is twice as near to 1 divided by it.
        known = min(2 * len(found), size)
        error = poly_less(p, [1], poly_trimmed(poly_product(p, found, one[:known])[:known]))
        more = poly_product(p, found, error)[:known]
        more = more + [0] * (known - len(more))
        found = found + [0] * (known - len(found))
        found = [(left + right) % p for left, right in zip(found, more)]
    return found


def poly_power(p, one, count):
    """A polynomial taken so many times by itself."""
    found = [1]
    for _ in range(count):
        found = poly_product(p, found, one)
    return found


def poly_rest(p, one, other):
    """What a polynomial leaves if it is divided by another one, not nought."""
    return poly_divided(p, one, other)[1]


def poly_common(p, one, other):
    """The greatest common factor, monic, of two polynomials, not both nought."""
    while other:
        one, other = other, poly_divided(p, one, other)[1]
    return poly_monic(p, one)


def poly_bezout(p, one, other):
    """The greatest common factor, monic, of two polynomials, the first one not nought, and two by which they sum to it.
    """
    shared, by_one = common_and_first(p, one, other)
    if not other:
        return shared, by_one, []
    return shared, by_one, poly_divided(p, poly_less(p, shared, poly_product(p, by_one, one)), other)[0]


def common_and_first(p, one, other):
    """The greatest common factor, monic, of two polynomials, the first one not nought, and the first of such two."""
    low, high = [1], []
    before, after = one, other
    while after:
        # What stands before, less low times one, is always a multiple of other.
        quotient, rest = poly_divided(p, before, after)
        before, after = after, rest
        low, high = high, poly_less(p, low, poly_product(p, quotient, high))
    turn = [inverse(p, before[-1])]
    return poly_product(p, before, turn), poly_product(p, low, turn)


def poly_slope(p, one):
    """The slope of a polynomial by x."""
    return poly_trimmed([at * number % p for at, number in enumerate(one)][1:])
