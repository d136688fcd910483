"""The symbols of two functions at places."""

from curveheads.bundles import made_bundle, orders_of
from curveheads.fields import norm_there
from curveheads.functions import check_not_nought, check_two
from curveheads.orders import order_there
from curveheads.places import check_place, degree_of_place
from curveheads.polynomials import inverse
from curveheads.series import first_values


def symbol(one, other, place):
    """The symbol of two functions, neither of which is nought, at a place."""
    check_two_not_nought(one, other)
    check_place(one.curve(), place)
    return symbol_there(one, other, place)


def symbols(one, other):
    """The places, in order, at which the symbol of two functions is not 1, each with it."""
    check_two_not_nought(one, other)
    # Where both have the order 0, the symbol is 1.
    places = [place for place, _ in orders_of(one)]
    places.extend([place for place, _ in orders_of(other) if place not in places])
    told = [(place, symbol_there(one, other, place)) for place in places]
    return made_bundle([(place, number) for place, number in told if number != 1])


def check_two_not_nought(one, other):
    check_not_nought(one)
    check_not_nought(other)
    check_two(one, other)


def symbol_there(one, other, place):
    """The symbol of two functions, neither of which is nought, at a place."""
    p = one.curve().prime()
    order, other_order = order_there(one, place), order_there(other, place)
    # The powers of the local sign in both products are alike, so just what stands at the first ones counts.
    above = number_power(p, first_norm(one, place, order), other_order)
    below = number_power(p, first_norm(other, place, other_order), order)
    sign = -1 if order % 2 == 1 and other_order % 2 == 1 and degree_of_place(place) % 2 == 1 else 1
    return sign * above * inverse(p, below) % p


def first_norm(function, place, order):
    """The norm of the value with which the series of a function of an order begins."""
    return norm_there(function.curve(), place, first_values(function, place, order, 1)[0])


def number_power(p, number, exponent):
    """A number, not 0, taken so many times by itself, for exponents below 0 turned over."""
    found = 1
    # Taken p - 1 times each number is 1.
    for _ in range(exponent % (p - 1)):
        found = found * number % p
    return found
