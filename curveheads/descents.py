"""Descents of differentials: their last parts, and what they tell of the differentials without poles."""

from curveheads.bundles import check_bundle, made_bundle
from curveheads.curves import check_curve
from curveheads.errors import InvalidNumber
from curveheads.functions import check_function
from curveheads.linear import cleared_rows, table_power
from curveheads.parts import last_part
from curveheads.polynomials import is_whole, poly_power

def descent(one):
    """The function that tells the descent of the differential of a function."""
    check_function(one)
    return last_part(one)


def descent_bundle(curve, bundle):
    """The bundle above which the descents of all differentials above a bundle are."""
    check_curve(curve)
    check_bundle(curve, bundle)
    return made_bundle([(place, number // curve.prime()) for place, number in bundle])


def descent_matrix(curve):
    """For each differential without poles x ** j / y the numbers by which they sum to its descent."""
    check_curve(curve)
    return table_of_descents(curve)


def standing(curve):
    """How many independent differentials without poles are left by whatever number of descents."""
    check_curve(curve)
    genus = curve.genus()
    return len(cleared_rows(curve.prime(), table_power(curve.prime(), table_of_descents(curve), genus), genus)[1])


def points_rest(curve, count):
    """The rest by p of the number of points over the field with p numbers taken so many times as a factor."""
    check_curve(curve)
    if not is_whole(count) or not 1 <= count < 10 ** 30:
        raise InvalidNumber(count)
    table = table_power(curve.prime(), table_of_descents(curve), count)
    return (1 - sum([row[at] for at, row in enumerate(table)])) % curve.prime()


def table_of_descents(curve):
    """For each differential without poles x ** j / y the numbers by which they sum to its descent."""
    p, genus = curve.prime(), curve.genus()
    numbers = poly_power(p, curve.polynomial(), (p - 1) // 2) + [0] * p
    return [[numbers[p * (by + 1) - at - 1] for by in range(genus)] for at in range(genus)]
