"""The spaces of all functions that bundles let."""

from curveheads.bundles import (
    check_bundle, degree_of_bundle, joint_bundle, made_bundle, multiple_of_bundle, number_there)
from curveheads.curves import check_curve
from curveheads.errors import InvalidList, InvalidPlace
from curveheads.functions import norm_of_pair
from curveheads.orders import order_there
from curveheads.places import degree_of_place, is_place, near_places
from curveheads.polynomials import is_number, poly_divided, poly_monic, poly_product, poly_sum, poly_trimmed
from curveheads.primes import prime_divisors
from curveheads.reduced import (
    check_bundle_and_function, crossed, fars_of, least_pairs, pair_function, parts_by_pairs)


def space_basis(curve, bundle):
    """The list of the functions whose sums of multiples by numbers are just those that a bundle lets."""
    check_curve(curve)
    check_bundle(curve, bundle)
    return basis_of(curve, bundle)


def space_size(curve, bundle):
    """How many functions the basis of the space of a bundle has."""
    check_curve(curve)
    check_bundle(curve, bundle)
    return len(powers_of_basis(fars_of(curve, least_pairs(curve, bundle)), number_there(bundle, ())))


def space_parts(curve, bundle, function):
    """The numbers by which the basis of the space of a bundle sums to a function, None if that is not let."""
    check_bundle_and_function(curve, bundle, function)
    least = least_pairs(curve, bundle)
    told = parts_by_pairs(least, function)
    if told is None:
        return None
    powers = powers_of_basis(fars_of(curve, least), number_there(bundle, ()))
    sizes = [len([power for which, power in powers if which == at]) for at in (0, 1)]
    if len(told[0]) > sizes[0] or len(told[1]) > sizes[1]:
        return None
    return [told[which][power] if power < len(told[which]) else 0 for which, power in powers]


def space_made(curve, bundle, numbers):
    """The function that is the sum of multiples by numbers of the basis of the space of a bundle."""
    check_curve(curve)
    check_bundle(curve, bundle)
    least = least_pairs(curve, bundle)
    powers = powers_of_basis(fars_of(curve, least), number_there(bundle, ()))
    if not is_number_list(curve.prime(), numbers, len(powers)):
        raise InvalidList(numbers)
    told = [poly_trimmed([number for number, (which, _) in zip(numbers, powers) if which == at]) for at in (0, 1)]
    return function_by_parts(curve, least, told[0], told[1])


def dual(curve, bundle):
    """The bundle with the opposite numbers, and with twice the genus less 2 more at the far place."""
    check_curve(curve)
    check_bundle(curve, bundle)
    return dual_of(curve, bundle)


def fixed_part(curve, bundle):
    """The bundle of what all functions that a bundle lets have beyond what it asks for, None if it lets just 0."""
    check_curve(curve)
    check_bundle(curve, bundle)
    least = least_pairs(curve, bundle)
    powers = powers_of_basis(fars_of(curve, least), number_there(bundle, ()))
    told = [which for which, _ in powers]
    if not told:
        return None
    if 0 in told and 1 in told:
        # By multiples of the least two functions each order is reached that the bundle lets.
        return []
    # The others are multiples of the one by powers of x, so they have no lower orders at near places.
    pair = least[2] if told[0] == 0 else least[3]
    p = curve.prime()
    norm, whole = norm_of_pair(curve, pair[0], pair[1]), crossed(p, least[2], least[3])
    excess = prime_divisors(p, poly_monic(p, poly_divided(p, norm, whole)[0]))
    last = basis_of(curve, bundle)[-1]
    function = pair_function(curve, least, pair)
    found = [(place, order_there(function, place) + number_there(bundle, place))
             for q in excess for place in near_places(curve, q)]
    return made_bundle(found + [((), order_there(last, ()) + number_there(bundle, ()))])


def first_along(curve, bundle, place):
    """The least number by which a bundle has to be more at a place to let a function, and this function."""
    check_curve(curve)
    check_bundle(curve, bundle)
    if not is_place(curve, place) or degree_of_place(place) != 1:
        raise InvalidPlace(place)
    number = -degree_of_bundle(bundle)
    basis = []
    while not basis:
        # Below the degree 0 nothing is let, and with each step at most one function comes in.
        basis = basis_of(curve, joint_bundle(bundle, made_bundle([(place, number)])))
        number += 1
    return number - 1, basis[0]


def powers_of_basis(fars, number):
    """For each function of the basis which of the least two it is, times which power of x.

    So far orders of the functions that a bundle with a number at the far place lets go up.
    """
    return [(far % 2, (far - fars[far % 2]) // 2) for far in range(min(fars), number + 1) if far >= fars[far % 2]]


def basis_of(curve, bundle):
    """The list of the functions whose sums of multiples by numbers are just those that a bundle lets."""
    p, least = curve.prime(), least_pairs(curve, bundle)
    found = []
    for which, power in powers_of_basis(fars_of(curve, least), number_there(bundle, ())):
        times = [0] * power + [1]
        found.append(pair_function(curve, least, [poly_product(p, times, part) for part in least[2 + which]]))
    return found


def function_by_parts(curve, least, a, b):
    """The function that is the sum of multiples by two polynomials of the least two ones."""
    p, (_, _, even, odd) = curve.prime(), least
    pair = [poly_sum(p, poly_product(p, a, left), poly_product(p, b, right)) for left, right in zip(even, odd)]
    return pair_function(curve, least, pair)


def is_number_list(p, value, size):
    """Whether a value is a list of so many numbers."""
    return isinstance(value, list) and len(value) == size and all([is_number(p, number) for number in value])


def dual_of(curve, bundle):
    """The bundle with the opposite numbers, and with twice the genus less 2 more at the far place."""
    opposite = multiple_of_bundle(bundle, -1)
    return joint_bundle(opposite, made_bundle([((), 2 * curve.genus() - 2)]))
