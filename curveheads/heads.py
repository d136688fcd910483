"""Functions that begin at told places as heads tell, and the differentials that bar them."""

from curveheads.bundles import (
    check_bundle, degree_of_bundle, joint_bundle, made_bundle, number_there, place_copy, place_key)
from curveheads.curves import check_curve
from curveheads.differentials import basis_above, stands_above
from curveheads.errors import InvalidHeads, InvalidList
from curveheads.fitted import least_fitting
from curveheads.functions import (
    Function, check_function_on, far_order, function_of, less_of, pair_product, product_of, sum_of, sum_of_multiples)
from curveheads.orders import order_there
from curveheads.places import check_place, degree_of_place, is_place
from curveheads.polynomials import inverse, poly_product
from curveheads.reduced import is_let
from curveheads.residues import far_number, residue_there
from curveheads.spaces import basis_of, is_number_list


def fits(curve, bundle, heads, function):
    """Whether a function begins at the places of heads as they tell, and is let by a bundle elsewhere."""
    check_bundle_and_heads(curve, bundle, heads)
    check_function_on(curve, function)
    if not all([is_let_at(bundle, place, less_of(function, head)) for place, head in heads]):
        return False
    return not function or is_let(bundle_beside(bundle, heads, function), function)


def is_bar(curve, bundle, heads, function):
    """Whether a differential above a bundle has, times the functions of heads, residues at their places with a sum
    that is not 0.
    """
    check_bundle_and_heads(curve, bundle, heads)
    check_function_on(curve, function)
    if not stands_above(function, bundle):
        return False
    found = [residue_there(product_of(function, head), place) for place, head in heads]
    return sum(found) % curve.prime() != 0


def fitting(curve, bundle, heads):
    """A function that fits a bundle and heads, or a bar of them, behind the word that says which it is."""
    check_bundle_and_heads(curve, bundle, heads)
    least, far = least_fitting(curve, bundle, heads)
    if is_low(bundle, least):
        return "fits", sum_of(least, far)
    able = basis_above(curve, bundle)
    return "barred", [one for one in able if bar_number(one, least) != 0][0]


def how_many_fit(curve, bundle, heads):
    """How many functions fit a bundle and heads."""
    check_bundle_and_heads(curve, bundle, heads)
    if not is_low(bundle, least_fitting(curve, bundle, heads)[0]):
        return 0
    many = 1
    for _ in basis_of(curve, bundle):
        many = many * curve.prime()
    return many


def bar_numbers(curve, bundle, heads):
    """The sums of residues that tell whether a function fits, for the differentials above a bundle, in their order."""
    check_bundle_and_heads(curve, bundle, heads)
    least = least_fitting(curve, bundle, heads)[0]
    return [bar_number(one, least) for one in basis_above(curve, bundle)]


def heads_with(curve, bundle, place, numbers):
    """Heads at one place alone that have told bar numbers."""
    check_curve(curve)
    check_bundle(curve, bundle)
    check_place(curve, place)
    able = basis_above(curve, bundle)
    if not is_number_list(curve.prime(), numbers, len(able)):
        raise InvalidList(numbers)
    if place == ():
        return [((), far_head(curve, able, numbers))]
    # All residues of a differential sum to 0: so a function that is let but here and at the far place has here as bar
    # numbers those that it has there, taken from 0.
    opposite = far_head(curve, able, [-number % curve.prime() for number in numbers])
    missing = 2 * curve.genus() - 1 - degree_of_bundle(bundle)
    more = max(0, -(-missing // degree_of_place(place)))
    # With so much more at the place the degree is above that of all differentials, so that none bars.
    wider = joint_bundle(bundle, made_bundle([(place, more)]))
    least, far = least_fitting(curve, wider, [((), opposite)])
    return [(place_copy(place), sum_of(least, far))]


def least_far(curve, bundle, heads):
    """The least number at the far place with which a function fits, such a function, and a bar for 1 less: None if 0
    fits whatever the number is.
    """
    check_bundle_and_heads(curve, bundle, heads)
    if any([place == () for place, _ in heads]):
        raise InvalidHeads(heads)
    least = least_fitting(curve, bundle, heads)[0]
    if not least:
        return None
    number = far_order(least)
    below = made_bundle([one for one in bundle if one[0] != ()] + [((), number - 1)])
    # The last differential has a far order that none has above a bundle with 1 more there, so no other can bar.
    return number, least, basis_above(curve, below)[-1]


def check_bundle_and_heads(curve, bundle, heads):
    check_curve(curve)
    check_bundle(curve, bundle)
    if not are_heads(curve, heads):
        raise InvalidHeads(heads)


def are_heads(curve, value):
    """Whether a value is a list of different places of a curve, in order, each with a function."""
    if not isinstance(value, list) or not all([is_head(curve, item) for item in value]):
        return False
    keys = [place_key(place) for place, _ in value]
    return all([before < after for before, after in zip(keys, keys[1:])])


def is_head(curve, value):
    """Whether a value is a tuple of a place and a function of a curve."""
    if not isinstance(value, tuple) or len(value) != 2:
        return False
    return isinstance(value[1], Function) and value[1].curve() == curve and is_place(curve, value[0])


def is_let_at(bundle, place, function):
    """Whether a bundle lets a function at a place."""
    return not function or order_there(function, place) >= -number_there(bundle, place)


def bundle_beside(bundle, heads, function):
    """A bundle that lets a function, not nought, at the places of heads, and elsewhere just as the told bundle does."""
    named = [place for place, _ in heads]
    elsewhere = [(place, number) for place, number in bundle if place not in named]
    return made_bundle(elsewhere + [(place, max(0, -order_there(function, place))) for place in named])


def is_low(bundle, least):
    """Whether a bundle lets a function at the far place."""
    return is_let_at(bundle, (), least)


def bar_number(one, least):
    """The sum of residues of a differential above a bundle by which it bars, told by the first of the two functions
    that fit heads together.
    """
    # As all residues sum to 0, those at the places of heads are as much as that of the product with this function at
    # the far place, taken from 0.
    curve = one.curve()
    p = curve.prime()
    straight, _ = pair_product(curve, (one.top(), one.side()), (least.top(), least.side()))
    return far_number(p, poly_product(p, [2], straight), poly_product(p, one.bottom(), least.bottom()))


def far_head(curve, able, numbers):
    """A function whose products with differentials have told residues at the far place.

    They are told by functions of far orders that rise.
    """
    p = curve.prime()
    found = function_of(curve, [], [], [1])
    for one, number in zip(able, numbers):
        # Its product with the differential is the first one that has a pole at the far place, and a simple one there.
        step = with_far_order(curve, -2 - far_order(one))
        before, by_step = [residue_there(product_of(one, part), ()) for part in (found, step)]
        found = sum_of_multiples(curve, [1, (number - before) * inverse(p, by_step) % p], [found, step])
    return found


def with_far_order(curve, order):
    """A function of a far order: a power of x, or y times one."""
    if order % 2 == 0:
        power, pair = order // 2, ([1], [])
    else:
        power, pair = (order - len(curve.polynomial()) + 1) // 2, ([], [1])
    above = [[0] * max(0, power) + part if part else [] for part in pair]
    return function_of(curve, above[0], above[1], [0] * max(0, -power) + [1])
