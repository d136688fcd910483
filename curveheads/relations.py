"""What two functions have to do with one another: polynomials in both that are nought."""

from curveheads.errors import InvalidFunction
from curveheads.functions import check_function, check_two, far_order, norm_of_pair, pair_product
from curveheads.linear import null_sums
from curveheads.polynomials import is_number, is_whole, poly_common, poly_power, poly_product, poly_sum

MOST_TAKEN = 12


def degree(function):
    """The number of the poles of a function, each as often as its order and the degree of its place tell."""
    check_function(function)
    return degree_of_function(function)


def relation(one, other):
    """The least relation of two functions, neither of which is a number."""
    check_no_numbers(one, other)
    return least_relation(one, other)


def is_relation(one, other, value):
    """Whether a value is a relation of two functions, neither of which is a number, with no greater counts than 12."""
    check_no_numbers(one, other)
    p = one.curve().prime()
    if not isinstance(value, list) or not value or not all([is_term(p, item) for item in value]):
        return False
    powers = [(i, j) for i, j, _ in value]
    if not all([before < after for before, after in zip(powers, powers[1:])]):
        return False
    return is_nought_by(one, other, value)


def share(one, other):
    """The number by which the degrees are divided to tell the greatest powers that stand in the relation."""
    check_no_numbers(one, other)
    return degree_of_function(one) // max([j for _, j, _ in least_relation(one, other)])


def check_no_numbers(one, other):
    for function in (one, other):
        check_function(function)
        if not function.side() and function.bottom() == [1] and len(function.top()) <= 1:
            raise InvalidFunction(function)
    check_two(one, other)


def is_term(p, value):
    """Whether a value is a tuple of two counts, neither too great, and of a number that is not 0."""
    if not isinstance(value, tuple) or len(value) != 3:
        return False
    if not all([is_whole(count) and 0 <= count <= MOST_TAKEN for count in value[:2]]):
        return False
    return is_number(p, value[2]) and value[2] != 0


def degree_of_function(function):
    """The number of the poles of a function, each as often as its order and the degree of its place tell."""
    if not function:
        return 0
    curve, bottom = function.curve(), function.bottom()
    shared = poly_common(curve.prime(), bottom, norm_of_pair(curve, function.top(), function.side()))
    return 2 * len(bottom) - len(shared) - 1 + max(0, far_order(function))


def least_relation(one, other):
    """The least relation of two functions, neither of which is a number."""
    most, most_other = degree_of_function(other), degree_of_function(one)
    terms = [(i, j) for i in range(most + 1) for j in range(most_other + 1)]
    found = null_sums(one.curve().prime(), term_pairs(one, other, terms))
    # All relations are products with the least one, so the first one that is found, with the lowest last term, is this.
    return [(i, j, number) for (i, j), number in zip(terms, found[0]) if number != 0]


def is_nought_by(one, other, told):
    """Whether told terms of two functions sum to nought."""
    p = one.curve().prime()
    top, side = [], []
    pairs = term_pairs(one, other, [(i, j) for i, j, _ in told])
    for (above, beside), (_, _, number) in zip(pairs, told):
        top = poly_sum(p, top, poly_product(p, above, [number]))
        side = poly_sum(p, side, poly_product(p, beside, [number]))
    return not top and not side


def term_pairs(one, other, terms):
    """The products of powers of two functions, all over one bottom, as pairs of polynomials without y and with y."""
    curve = one.curve()
    left = powers_over_one(one, max([i for i, _ in terms]))
    right = powers_over_one(other, max([j for _, j in terms]))
    return [pair_product(curve, left[i], right[j]) for i, j in terms]


def powers_over_one(function, most):
    """The powers of a function up to a count as pairs of polynomials, all over the bottom taken so many times."""
    curve, p = function.curve(), function.curve().prime()
    found, pair = [], ([1], [])
    for count in range(most + 1):
        below = poly_power(p, function.bottom(), most - count)
        found.append((poly_product(p, pair[0], below), poly_product(p, pair[1], below)))
        pair = pair_product(curve, pair, (function.top(), function.side()))
    return found
