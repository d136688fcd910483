"""What several tests need: wrong values, a check of refusals, and arithmetic that owes nothing to the package."""

import functools
import itertools

from curveheads.curves import Curve
from curveheads.errors import InvalidCurve, InvalidPrime
from curveheads.functions import Function

PRIMES = (3, 5, 7, 11, 13)


def nested(depth):
    value = []
    for _ in range(depth - 1):
        value = [value]
    return value


def never_whole():
    """Values that are no whole numbers."""
    return [
        None, True, False, "", "3", [], [3], [True], (), (3,), {}, {"p": 3}, {3: True}, ["3"], [[3]], ([3], 3),
        nested(30), Curve(3, [0, 1]), [Curve(3, [0, 1])], InvalidPrime(3),
    ]


def wrong_primes():
    """Values that are none of the five primes."""
    return never_whole() + [0, 1, 2, 4, 6, 8, 9, 10, 12, 14, 15, 17, -3, -5, -13, 3 + 10 ** 20, 10 ** 29]


def wrong_polynomials(p):
    """Values that are no polynomials over the numbers modulo p."""
    return [
        None, True, False, 0, 1, p, "", "1", "[1]", "011", (), (1,), (0, 1), {}, {0: 1}, {1: True},
        [True], [0, True], [False, 1], [1, True, 1], [0], [0, 0], [1, 0], [1, 1, 0], [0, 1, 0],
        [p], [p, 1], [0, p], [0, p + 1], [1, 10 ** 29, 1], [-1], [-1, 1], [0, -1], [1, -p, 1],
        [None], [None, 1], [1, None], ["1"], ["0", "1"], [0, "x", 1], [[0, 1]], [[1]], [0, [1]], [[], 1], [(0, 1)],
        [0, (1,)], [{}, 1], nested(30), ([0, 1],), Curve(3, [0, 1]), [Curve(3, [0, 1])], [0, Curve(3, [0, 1]), 1],
        InvalidPrime([0, 1]),
    ]


def wrong_powers():
    """Values that are no whole numbers from 1 to 60."""
    return never_whole() + [0, -1, -60, 61, 62, 120, 10 ** 29, -10 ** 29]


def wrong_curves():
    """Values that are no curves."""
    return [
        None, True, False, 0, 3, "", "y * y = x", [], [3, [0, 1]], [0, 1], (), (3, [0, 1]), {}, {"p": 3, "f": [0, 1]},
        nested(30), [Curve(3, [0, 1])], (Curve(3, [0, 1]),), Function(Curve(3, [0, 1]), [0, 1], [], [1]), InvalidCurve(),
    ]


def wrong_functions():
    """Values that are no functions on any curve."""
    curve = Curve(3, [0, 1])
    return [
        None, True, False, 0, 1, "", "x", [], [0, 1], ([0, 1], [], [1]), [[0, 1], [], [1]], (curve, [0, 1], [], [1]),
        (), {}, {"top": [0, 1]}, nested(30), curve, [Function(curve, [0, 1], [], [1])],
        (Function(curve, [0, 1], [], [1]),), InvalidCurve(curve),
    ]


def assert_each_refused(case, call, good, wrong):
    """Each wrong argument is refused, alone and with wrong ones behind it, by position and by name.

    Both dictionaries have the names of the arguments in their order: one has an argument that is let for each, the
    other, for some, the error and the values that are not let.
    """
    names = list(good)
    for name, (error, values) in wrong.items():
        behind = [other for other in names[names.index(name) + 1:] if other in wrong]
        for at, value in enumerate(values):
            told = {**good, name: value}
            assert_refused(case, error, value, call, *told.values())
            assert_refused(case, error, value, call, **dict(reversed(told.items())))
            for other in behind:
                assert_refused(case, error, value, call, *{**told, other: turn_of(wrong[other][1], at)}.values())
            everything = {other: turn_of(wrong[other][1], at + 1) for other in behind}
            assert_refused(case, error, value, call, *{**told, **everything}.values())


def turn_of(values, at):
    return values[at % len(values)]


def assert_refused(case, error, refused, call, /, *arguments, **named):
    """The call raises just this error, and its field holds the very value."""
    with case.subTest(call=call.__name__, arguments=arguments, named=named):
        with case.assertRaises(error) as caught:
            call(*arguments, **named)
        case.assertIs(type(caught.exception), error)
        case.assertIs(caught.exception.value, refused)


def product(p, polynomials):
    """The product of polynomials, added up term by term."""
    found = [1]
    for one in polynomials:
        sums = [0] * (len(found) + len(one) - 1)
        for i, left in enumerate(found):
            if left:
                for at, right in enumerate(one, i):
                    sums[at] += left * right
        found = [number % p for number in sums]
    return found


def rest_of(p, one, monic):
    """What a monic polynomial leaves of a polynomial, with noughts at the end."""
    rest, size = list(one), len(monic)
    for at in range(len(one) - size, -1, -1):
        times = rest[at + size - 1]
        if times:
            rest[at:at + size] = [(left - times * right) % p for left, right in zip(rest[at:at + size], monic)]
    return rest


def monics(p, power):
    return [list(numbers) + [1] for numbers in itertools.product(range(p), repeat=power)]


def is_undivided(p, monic):
    """Whether no monic polynomial of a lower power divides a monic one, each being tried."""
    powers = range(1, (len(monic) - 1) // 2 + 1)
    return len(monic) > 1 and all(any(rest_of(p, monic, low)) for power in powers for low in monics(p, power))


def trimmed(numbers):
    numbers = list(numbers)
    while numbers and numbers[-1] == 0:
        numbers.pop()
    return numbers


def frobenius_rows(p, monic):
    """What a monic polynomial leaves of x ** (p * k), for all k below its power."""
    power = len(monic) - 1
    rows = []
    row = [1] + [0] * (power - 1)
    for _ in range(power):
        rows.append(row)
        for _ in range(p):
            row = rest_of(p, [0] + row, monic)[:power]
    return rows


def is_one_prime(p, monic):
    """Whether a monic polynomial is prime, by p-th powers of x and its rests: quick for great powers, too."""
    power = len(monic) - 1
    if power < 1:
        return False
    rows = frobenius_rows(p, monic)
    first = rest_of(p, [0, 1] + [0] * power, monic)[:power]
    turned = [first]
    for _ in range(power):
        # As numbers are their own p-th powers, the p-th power of a sum is the sum of those of its parts.
        turned.append([sum(left * row[at] for left, row in zip(turned[-1], rows)) % p for at in range(power)])
    lower = [power // part for part in range(2, power + 1) if power % part == 0]
    return turned[power] == first and all(has_no_common_factor(p, monic, less(p, turned[at], first)) for at in lower)


@functools.lru_cache(maxsize=None)
def tried_primes(p, power, many):
    found = []
    for low in itertools.product(range(p), repeat=min(6, power)):
        # The number at the lowest place changes first, as all polynomials with 0 there are multiples of x.
        one = list(low[::-1]) + [0] * (power - 6) + [1]
        if is_one_prime(p, one):
            found.append(one)
        if len(found) == many:
            break
    return found


def first_primes(p, power, many):
    """Some prime polynomials of a power, found by trying numbers at the lowest places."""
    return [list(one) for one in tried_primes(p, power, many)]


def spread(p, seed, power):
    """A polynomial of a power whose numbers have no plain pattern."""
    return [(seed * at * at * at + 3 * at * at + seed + at // 3) % p for at in range(power)] + [1 + seed % (p - 1)]


def less(p, one, other):
    pairs = itertools.zip_longest(one, other, fillvalue=0)
    return trimmed([(left - right) % p for left, right in pairs])


def has_no_common_factor(p, one, other):
    while other:
        turn = pow(other[-1], -1, p)
        other = [number * turn % p for number in other]
        one, other = other, trimmed(rest_of(p, one, other))
    return len(one) == 1


def lists_within(value):
    """All list objects within a result, each as often as it stands there."""
    if not isinstance(value, (list, tuple)):
        return []
    inner = [found for item in value for found in lists_within(item)]
    return inner + [value] if isinstance(value, list) else inner


def assert_no_list_twice(case, result):
    found = lists_within(result)
    case.assertEqual(len({id(one) for one in found}), len(found))


class Stream:
    """Numbers without a plain pattern, the same ones each time."""

    def __init__(self, seed):
        self.state = seed

    def below(self, many):
        self.state = (self.state * 6364136223846793005 + 1442695040888963407) % 2 ** 64
        return (self.state >> 33) % many

    def polynomial(self, p, most):
        """A polynomial of a power of at most so much, perhaps nought."""
        return trimmed([self.below(p) for _ in range(self.below(most + 2))])

    def full_polynomial(self, p, power):
        """A polynomial of just this power."""
        return [self.below(p) for _ in range(power)] + [1 + self.below(p - 1)]


def curve_polynomials(p):
    """Polynomials of curves: two of each power, prime ones and such with several factors among them."""
    return [
        [0, 1], [p - 1, 1], [0, p - 1, 0, 1], first_primes(p, 3, 1)[0], [0, 1, 0, 0, 0, 1],
        product(p, [first_primes(p, 2, 1)[0], first_primes(p, 3, 1)[0]]), [1, int(p == 7), 0, 0, 0, 0, 0, 1],
        first_primes(p, 7, 1)[0]]


@functools.lru_cache(maxsize=None)
def kept_curves(p):
    return tuple(Curve(p, f) for f in curve_polynomials(p))


def curves_over(p):
    """Curves of the powers 1, 3, 5 and 7, two of each."""
    return list(kept_curves(p))


def all_curves():
    return [curve for p in PRIMES for curve in curves_over(p)]


def plain_functions(curve):
    """Nought, numbers and other functions that the document names."""
    p, f = curve.prime(), curve.polynomial()
    told = [([], [], [1]), ([1], [], [1]), ([p - 1], [], [1]), ([0, 1], [], [1]), ([], [1], [1]), ([], [1], f),
            ([1], [], [0, 1]), (f, [], [1])]
    return [Function(curve, *one) for one in told]


def mixed_functions(curve, seed, many, most):
    """Functions whose polynomials have powers of at most so much, some with a factor that divides all three."""
    p, stream = curve.prime(), Stream(seed)
    found = []
    for at in range(many):
        shared = stream.full_polynomial(p, at % 3)
        told = [stream.polynomial(p, most), stream.polynomial(p, most), stream.full_polynomial(p, at % (most + 1))]
        found.append(Function(curve, *[trimmed(product(p, [shared, one])) for one in told]))
    return found


def tops(function):
    """The polynomials of a function."""
    return function.top(), function.side(), function.bottom()
