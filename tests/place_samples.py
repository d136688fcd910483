"""Places of all sorts, found without the package, and values that are no places."""

import functools
import itertools

from curveheads.curves import Curve
from curveheads.errors import InvalidPlace
from curveheads.functions import Function
from tests import reckoning
from tests.samples import first_primes, is_one_prime, nested, product


def low_places(curve, most=3):
    """All places with prime polynomials of a low power, by trying: just the first few polynomials of each power."""
    p, f = curve.prime(), curve.polynomial()
    primes = [q for power in range(1, most + 1) for q in reckoning.kept_primes(p, power)[:30]]
    return [place for q in primes for place in reckoning.places_by_trying(p, f, q)]


def branches(curve):
    """The branches over the factors of f of a power of at most 3, and over f itself if it is prime."""
    p, f = curve.prime(), curve.polynomial()
    primes = [q for power in (1, 2, 3) for q in reckoning.kept_primes(p, power) if not reckoning.rest(p, f, q)]
    if f not in primes and is_one_prime(p, f):
        primes.append(f)
    return [(list(q), []) for q in primes]


@functools.lru_cache(maxsize=None)
def kept_plain_place(p, f, power):
    f = list(f)
    for numbers in itertools.product(range(p), repeat=4):
        # The norm of a + b * y leaves nought by each prime that divides it, so that a / b is a root of f there.
        if power % 2 == 0:
            a, b = [*numbers[:3]] + [0] * (power // 2 - 3) + [1], [1, numbers[3]] if numbers[3] else [1]
            q = reckoning.norm_top(p, f, (a, b, [1]))
        else:
            b = [1] + [0] * ((power - len(f) + 1) // 2 - 1) + [1]
            a = reckoning.trimmed([*numbers[::-1]])
            q = reckoning.less(p, [], reckoning.norm_top(p, f, (a, b, [1])))
        if a and is_one_prime(p, q):
            return q, reckoning.rest(p, reckoning.times(p, a, reckoning.rest_over(p, q, b)), q)
    raise LookupError


def plain_place(curve, power):
    """A plain place with a prime polynomial of a great power, 12 or 13."""
    q, w = kept_plain_place(curve.prime(), tuple(curve.polynomial()), power)
    return list(q), list(w)


@functools.lru_cache(maxsize=None)
def kept_wide_place(p, f, power):
    return [q for q in first_primes(p, power, 12) if reckoning.is_no_square(p, q, list(f))][0]


def wide_place(curve, power):
    """A wide place with a prime polynomial of a great power."""
    return list(kept_wide_place(curve.prime(), tuple(curve.polynomial()), power)), None


def some_places(curve):
    """The far place, and near ones of all sorts and of powers from 1 to 12."""
    told = low_places(curve)
    plain = [place for place in told if place[1]]
    wide = [place for place in told if place[1] is None]
    return [(), *plain[:2], *plain[-2:], *branches(curve), *wide[:2], *wide[-1:],
            plain_place(curve, 12), wide_place(curve, 12)]


def wrong_places(curve):
    """Values that are no places of a curve."""
    plain = [place for place in low_places(curve) if place[1]]
    found = never_places() + list(wrong_near(curve)) + elsewhere(curve)
    for q, w in (plain[0], plain[-1]):
        found.extend(wrong_plain(curve.prime(), curve.polynomial(), q, w))
    return found


def never_places():
    """Values that are no places of any curve."""
    curve = Curve(3, [0, 1])
    return [
        None, True, False, 0, 1, -1, "", "()", "far", [], [()], ((),), ((), ()), ([], []), ([], None), ([1], []),
        ([1], None), (None, None), (0, 1), ("01", None), ({}, None), (curve, None), ([0, 1],), ([0, 1], None, None),
        {}, {(): 1}, nested(30), (nested(29), []), curve, Function(curve, [0, 1], [], [1]), InvalidPlace(()),
    ]


def wrong_plain(p, f, q, w):
    """Values that come close to a plain place."""
    opposite = [number - p if number else 0 for number in w]
    greater = [number + p for number in w]
    square = reckoning.times(p, q, q)
    others = [root for root in ([], [1], [2], [0, 1], [1, 1]) if len(root) < len(q)
              and reckoning.rest(p, reckoning.less(p, f, reckoning.times(p, root, root)), q)]
    return [
        [q, w], (q, w, w), (q,), ((q, w),), (tuple(q), w), (q, tuple(w)), (w, q), (q, None), (q, ()), (q, True),
        (q, q), (q, w + [0]), (q, reckoning.plus(p, w, q)), (q, opposite), (q, greater), (q, ""), (q, [w]), (q, {}),
        (q + [0], w), ([q[0] + p] + q[1:], w), ([q[0] - p] + q[1:], w), (q[:-1] + [True], w),
        ([number * 2 % p for number in q], w), (square, reckoning.lifted(p, f, (q, w), 2)), (square, w),
        (q, Function(Curve(p, f), w, [], [1])), {"q": q, "w": w}, [(q, w)],
    ] + [(q, root) for root in others] + [(q, [bool(w[0])] + w[1:])] * (w[0] in (0, 1))


def wrong_near(curve):
    """Values that come close to branches and wide places, and places with a prime polynomial of the power 13."""
    p = curve.prime()
    for q, w in branches(curve)[:2]:
        yield from [(q, None), (q, ()), (q, [0]), (q, [1]), (q, q), (q, 0), (q, False), (tuple(q), []), [q, []]]
    wide = [place for place in low_places(curve) if place[1] is None]
    for q, w in (wide[0], wide[-1]):
        yield from [(q, []), (q, [1]), (q, ()), (q, 0), (q, False), (q, "None"), (tuple(q), None), [q, None],
                    (q[:-1] + [True], None), (q + [0], None), ([number * 2 % p for number in q], None),
                    (reckoning.times(p, q, q), None), (product(p, [q, wide[1][0]]), None), (q,)]
    yield from [plain_place(curve, 13), wide_place(curve, 13)]


def elsewhere(curve):
    """Places of other curves that are none of this one."""
    p, f = curve.prime(), curve.polynomial()
    near = low_places(Curve(p, [1, 1])) + low_places(Curve(p, [2, 1]))
    found = [place for place in near if place not in reckoning.places_by_trying(p, f, place[0])]
    return found[:3] + found[-3:]
