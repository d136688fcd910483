"""Functions, places, orders and values reckoned with anew, by arithmetic that owes nothing to the package.

A function is told here by its three polynomials, a curve by p and f, a place and a value as the document tells them.
"""

import functools
import itertools

from tests.samples import is_undivided, less, monics, product, rest_of, trimmed


# Polynomials

def times(p, one, other):
    return trimmed(product(p, [one, other]))


def plus(p, one, other):
    pairs = itertools.zip_longest(one, other, fillvalue=0)
    return trimmed([(left + right) % p for left, right in pairs])


def monic(p, one):
    turn = pow(one[-1], -1, p)
    return [number * turn % p for number in one]


def rest(p, one, other):
    return trimmed(rest_of(p, one, monic(p, other)))


def quotient(p, one, other):
    """The quotient of a polynomial by one that divides it."""
    found, left = [], list(one)
    turn = pow(other[-1], -1, p)
    while len(left) >= len(other):
        by = len(left) - len(other)
        number = left[-1] * turn % p
        found = plus(p, found, [0] * by + [number])
        left = less(p, left, times(p, [0] * by + [number], other))
    assert not left
    return found


def common(p, one, other):
    while other:
        one, other = other, rest(p, one, other)
    return monic(p, one)


def taken(p, one, count):
    found = [1]
    for _ in range(count):
        found = times(p, found, one)
    return found


def derived(p, one):
    return trimmed([at * number % p for at, number in enumerate(one)][1:])


def times_divided(p, one, q):
    """How many times q divides a polynomial that is not nought."""
    count = 0
    while not rest(p, one, q):
        one = quotient(p, one, q)
        count += 1
    return count


# Functions

def least(p, one):
    """The three polynomials without a common factor, the last one monic."""
    top, side, bottom = one
    shared = times(p, common(p, common(p, bottom, top), side), [bottom[-1]])
    return tuple(quotient(p, part, shared) for part in one)


def function_sum(p, one, other):
    top = plus(p, times(p, one[0], other[2]), times(p, other[0], one[2]))
    side = plus(p, times(p, one[1], other[2]), times(p, other[1], one[2]))
    return least(p, (top, side, times(p, one[2], other[2])))


def function_less(p, one, other):
    return function_sum(p, one, (less(p, [], other[0]), less(p, [], other[1]), other[2]))


def function_product(p, f, one, other):
    top = plus(p, times(p, one[0], other[0]), times(p, f, times(p, one[1], other[1])))
    side = plus(p, times(p, one[0], other[1]), times(p, one[1], other[0]))
    return least(p, (top, side, times(p, one[2], other[2])))


def norm_top(p, f, one):
    return less(p, times(p, one[0], one[0]), times(p, f, times(p, one[1], one[1])))


def function_over(p, f, one):
    """1 divided by a function that is not nought."""
    top, side = times(p, one[2], one[0]), times(p, one[2], less(p, [], one[1]))
    return least(p, (top, side, norm_top(p, f, one)))


def function_taken(p, f, one, count):
    found = ([1], [], [1])
    for _ in range(abs(count)):
        found = function_product(p, f, found, one)
    return function_over(p, f, found) if count < 0 else found


def function_slope(p, f, one):
    """By the rules for sums and quotients, from the slopes of x and y."""
    slope_of_y = least(p, ([], derived(p, f), times(p, [2], f)))
    bent = function_product(p, f, (one[1], [], [1]), slope_of_y)
    above = function_sum(p, (derived(p, one[0]), derived(p, one[1]), [1]), bent)
    first = function_product(p, f, above, ([1], [], one[2]))
    second = function_product(p, f, one, (derived(p, one[2]), [], one[2]))
    return function_less(p, first, second)


# Places

@functools.lru_cache(maxsize=None)
def kept_roots(p, q):
    """For each rest by q that is a square, the rests whose square it is."""
    found = {}
    for numbers in itertools.product(range(p), repeat=len(q) - 1):
        root = trimmed(numbers)
        found.setdefault(tuple(rest(p, times(p, root, root), list(q))), []).append(root)
    return found


def places_by_trying(p, f, q):
    """The places with a prime polynomial of a low power, in order: each polynomial is tried."""
    roots = kept_roots(p, tuple(q)).get(tuple(rest(p, f, q)), [None])
    return [(list(q), None if w is None else list(w)) for w in sorted(roots, key=lambda w: w or [])]


@functools.lru_cache(maxsize=None)
def kept_primes(p, power):
    return [one for one in monics(p, power) if is_undivided(p, one)]


def degree(place):
    if place == ():
        return 1
    return (len(place[0]) - 1) * (2 if place[1] is None else 1)


def places_by_degree(p, f, wanted):
    found = [()] if wanted == 1 else []
    for power in range(1, wanted + 1):
        for q in kept_primes(p, power):
            found.extend(place for place in places_by_trying(p, f, q) if degree(place) == wanted)
    return found


def rest_taken(p, q, one, count):
    found = [1]
    for figure in f"{count:b}":
        found = rest(p, times(p, found, found), q)
        if figure == "1":
            found = rest(p, times(p, found, one), q)
    return found


def rest_over(p, q, one):
    """The rest by a prime polynomial whose product with a rest is 1."""
    return rest_taken(p, q, one, p ** (len(q) - 1) - 2)


def is_no_square(p, q, one):
    return rest_taken(p, q, rest(p, one, q), (p ** (len(q) - 1) - 1) // 2) == [p - 1]


# Orders

def lifted(p, f, place, count):
    """The polynomial that differs from w by a multiple of q, its square from f by one of q taken so many times."""
    q, root = place
    turn = rest_over(p, q, times(p, [2], root))
    high = q
    for _ in range(count - 1):
        missing = quotient(p, less(p, f, times(p, root, root)), high)
        root = plus(p, root, times(p, high, rest(p, times(p, missing, turn), q)))
        high = times(p, high, q)
    return root


def order(p, f, one, place):
    """The order of a function that is not nought: at plain places by y written as a polynomial by powers of q."""
    top, side, bottom = one
    if place == ():
        ends = [2 * len(top) - 2] * bool(top) + [2 * len(side) - 2 + len(f) - 1] * bool(side)
        return 2 * len(bottom) - 2 - max(ends)
    q, w = place
    if w is None:
        return min(times_divided(p, part, q) for part in (top, side) if part) - times_divided(p, bottom, q)
    if w == []:
        ends = [2 * times_divided(p, top, q)] if top else []
        ends += [2 * times_divided(p, side, q) + 1] if side else []
        return min(ends) - 2 * times_divided(p, bottom, q)
    count = (len(norm_top(p, f, one)) - 1) // (len(q) - 1) + 1
    high = taken(p, q, count)
    above = rest(p, plus(p, top, times(p, side, lifted(p, f, place, count))), high)
    return times_divided(p, above, q) - times_divided(p, bottom, q)


# Values

def modulus(place):
    return place[0] if place else [0, 1]


def nought_at(place):
    return ([], []) if place and place[1] is None else []


def number_at(place, number):
    one = [number] if number else []
    return (one, []) if place and place[1] is None else one


def all_values(p, place):
    """All values at a place."""
    parts = [trimmed(numbers) for numbers in itertools.product(range(p), repeat=len(modulus(place)) - 1)]
    if place and place[1] is None:
        return [(one, other) for one in parts for other in parts]
    return parts


def sum_there(p, place, one, other):
    if place and place[1] is None:
        return plus(p, one[0], other[0]), plus(p, one[1], other[1])
    return plus(p, one, other)


def product_there(p, f, place, one, other):
    q = modulus(place)
    if not place or place[1] is not None:
        return rest(p, times(p, one, other), q)
    top = plus(p, times(p, one[0], other[0]), times(p, f, times(p, one[1], other[1])))
    side = plus(p, times(p, one[0], other[1]), times(p, one[1], other[0]))
    return rest(p, top, q), rest(p, side, q)


def taken_there(p, f, place, value, count):
    found = number_at(place, 1)
    for figure in f"{count:b}":
        found = product_there(p, f, place, found, found)
        if figure == "1":
            found = product_there(p, f, place, found, value)
    return found


def conjugates(p, f, place, value):
    """The powers of a value with the exponents p ** k, for k below the degree of the place."""
    found = []
    for _ in range(degree(place)):
        found.append(value)
        value = taken_there(p, f, place, value, p)
    return found


def value_of(p, f, one, place):
    """The value of a function at a place where its order is not below 0, and where q does not divide its bottom."""
    top, side, bottom = one
    if not place:
        return [top[-1] * pow(bottom[-1], -1, p) % p] if len(top) == len(bottom) else []
    q, w = place
    turn = rest_over(p, q, rest(p, bottom, q))
    parts = [rest(p, times(p, part, turn), q) for part in (top, side)]
    if w is None:
        return parts[0], parts[1]
    return rest(p, plus(p, parts[0], times(p, parts[1], w)), q)


# Series

def sign(f, place):
    """The local sign of a place."""
    if not place:
        return [], [0] * ((len(f) - 2) // 2) + [1], f
    return ([], [1], [1]) if place[1] == [] else (place[0], [], [1])


def sum_of_series(p, f, place, told):
    """The function that is the sum of values, each times its power of the local sign."""
    order, values = told
    found, high = ([], [], [1]), function_taken(p, f, sign(f, place), order)
    for value in values:
        one = (*value, [1]) if isinstance(value, tuple) else (value, [], [1])
        found = function_sum(p, found, function_product(p, f, one, high))
        high = function_product(p, f, high, sign(f, place))
    return found


def begins_like(p, f, one, place, told):
    """Whether a function differs from the sum of a series by nought or by a function of a high order."""
    missing = function_less(p, one, sum_of_series(p, f, place, told))
    return not (missing[0] or missing[1]) or order(p, f, missing, place) >= told[0] + len(told[1])
