"""The orders that a single pole at a place can have, and two poles at two places."""

from curveheads.bundles import made_bundle
from curveheads.curves import check_curve
from curveheads.differentials import basis_above, order_of_dx
from curveheads.errors import InvalidNumber, InvalidPlace
from curveheads.functions import Function, sum_of
from curveheads.orders import order_there
from curveheads.places import degree_of_place, is_place
from curveheads.polynomials import is_whole
from curveheads.reduced import is_let
from curveheads.spaces import basis_of

MOST_ORDER = 30
MOST_OF_PAIR = 15


def gaps(curve, place):
    """The counts, in order, that are not the order of a single pole at a place of degree 1."""
    check_curve(curve)
    check_low_place(curve, place)
    if place == () or place[1] == []:
        return list(range(1, 2 * curve.genus(), 2))
    return list(range(1, curve.genus() + 1))


def with_pole(curve, place, order):
    """A function with a pole of an order at a place of degree 1 and no other one, None if there is none."""
    check_place_and_order(curve, place, order)
    return function_with_poles(curve, [(place, order)])


def is_with_pole(curve, place, order, value):
    """Whether a value is a function with a pole of an order at a place of degree 1 and no other one."""
    check_place_and_order(curve, place, order)
    if not isinstance(value, Function) or value.curve() != curve or not value:
        return False
    return order_there(value, place) == -order and is_let([(place, order)], value)


def gap_differential(curve, place, order):
    """A function whose differential has no poles, and at a place of degree 1 an order of 1 less than a told one: None
    if there is none.
    """
    check_place_and_order(curve, place, order)
    for z in basis_above(curve, made_bundle([(place, order - 1)])):
        if order_there(z, place) + order_of_dx(place) == order - 1:
            return z
    return None


def pair_gaps(curve, one, other):
    """The pairs of counts, in order, that no function has as the orders of its poles at two places of degree 1, with
    no other poles.
    """
    check_two_places(curve, one, other)
    most = 2 * curve.genus()
    pairs = [(first, second) for first in range(most) for second in range(most - first)]
    return [pair for pair in pairs if function_with_poles(curve, [(one, pair[0]), (other, pair[1])]) is None]


def with_poles(curve, one, other, pair):
    """A function, not nought, with poles of two told orders at two places of degree 1 and no others, None if there is
    none.
    """
    check_two_places(curve, one, other)
    if not isinstance(pair, tuple) or len(pair) != 2 or not all([is_count(count) for count in pair]):
        raise InvalidNumber(pair)
    return function_with_poles(curve, [(one, pair[0]), (other, pair[1])])


def check_low_place(curve, place):
    if not is_place(curve, place) or degree_of_place(place) != 1:
        raise InvalidPlace(place)


def check_place_and_order(curve, place, order):
    check_curve(curve)
    check_low_place(curve, place)
    if not is_whole(order) or not 1 <= order <= MOST_ORDER:
        raise InvalidNumber(order)


def check_two_places(curve, one, other):
    check_curve(curve)
    check_low_place(curve, one)
    check_low_place(curve, other)
    if one == other:
        raise InvalidPlace(other)


def is_count(value):
    """Whether a value is a count that may stand in a pair."""
    return is_whole(value) and 0 <= value <= MOST_OF_PAIR


def function_with_poles(curve, poles):
    """A function, not nought, with poles of told orders at one or two places and no other ones, None if there is none.

    An order of 0 tells that there is no pole.
    """
    able = basis_of(curve, made_bundle(poles))
    told = [(place, order) for place, order in poles if order > 0]
    deep = [[one for one in able if order_there(one, place) == -order] for place, order in told]
    if not told:
        return able[0]
    if not all(deep):
        # What none of the basis has, no sum of them has.
        return None
    # If neither of two functions has both poles, each has just one of them, and their sum has both.
    tried = [functions[0] for functions in deep]
    tried.append(sum_of(tried[0], tried[-1]))
    return [one for one in tried if all([order_there(one, place) == -order for place, order in told])][0]
