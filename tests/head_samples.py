"""Told residues and heads of all sorts, values that are none, and what fits heads and bars them by orders alone."""

from curveheads.curves import Curve
from curveheads.errors import InvalidHeads
from curveheads.functions import Function, product_of
from tests import reckoning
from tests.bundle_samples import place_key, places_to_take, plain_and_turned
from tests.expansions import residue_by_series
from tests.place_samples import branches, low_places, plain_place, wide_place, wrong_places
from tests.samples import Stream, mixed_functions, nested, never_whole, plain_functions, tops
from tests.space_samples import functions_of_other_curves, is_above_by_orders, is_let


def residue_of(curve, z, place):
    return residue_by_series(curve.prime(), curve.polynomial(), tops(z), place)


def by_degree(curve):
    """The far place, and near places of all sorts and of low powers, those of low degrees first."""
    near = low_places(curve) + [place for place in branches(curve) if len(place[0]) > 4]
    return [(), *sorted(near, key=reckoning.degree)]


def with_degrees(curve, many, wanted):
    """So many places whose degrees sum to so much, None if none are found: the first ones, but for the last two."""
    places = by_degree(curve)
    for most in range(1, 9):
        low = [place for place in places if reckoning.degree(place) <= most]
        if len(low) < many:
            continue
        start = low[:many - 2]
        left = wanted - sum(reckoning.degree(place) for place in start)
        for at, one in enumerate(places[many - 2:], many - 2):
            for other in places[at + 1:]:
                if reckoning.degree(one) + reckoning.degree(other) == left:
                    return start + [one, other]
    return None


# Told residues

def summing_to(curve, places, wanted, seed):
    """Told residues at places whose numbers sum to a number, some of them 0."""
    p, stream = curve.prime(), Stream(seed)
    numbers = [stream.below(p) for _ in places]
    if numbers:
        numbers[-1] = (wanted - sum(numbers[:-1])) % p
    return list(zip(places, numbers))


def places_in_turn(curve, seed, many):
    """Different places in an order without a plan."""
    stream, left = Stream(seed), places_to_take(curve)
    found = []
    for _ in range(min(many, len(left))):
        found.append(left.pop(stream.below(len(left))))
    return found


def wrong_told(curve):
    """Values that are no told residues on a curve."""
    p = curve.prime()
    one, other = plain_and_turned(curve)
    never = [None, True, False, 0, 1, "", "[]", (), ((), 1), (((), 1),), {}, {(): 1}, nested(30), curve, [None], [True],
             [0], [""], [()], [((),)], [((), 1, 1)], [[(), 1]], [((), 1), None], [{(): 1}], [[((), 1)]], [nested(29)],
             [curve], Function(curve, [1], [], [1]), InvalidHeads([]), [(1, ())], [((), ())], [((), curve)],
             [((), "1")], ((one, 1), (other, 1)), [[one, 1], [other, 1]], [one, other]]
    numbers = [[((), number)] for number in never_whole() + [-1, p, p + 1, -p, 10 ** 29]]
    numbers += [[(one, 1), (other, number)] for number in (True, False, None, p, -1)]
    twice = [[((), 1), ((), 1)], [(one, 1), (one, 1)], [(one, 1), ((), 0), (one, p - 1)], [(one, 0), (one, 0)],
             [(one, 1), ((list(one[0]), list(one[1])), 1)]]
    places = [[(place, 1)] for place in wrong_places(curve)[::4]]
    places += [[((), 1), (place, 1)] for place in (plain_place(curve, 13), wide_place(curve, 13), None, ([0, 1], True))]
    return never + numbers + twice + places + [[(place, 0) for place in by_degree(curve)[:13]]]


# Heads

def orders_at(curve, place, one):
    return reckoning.order(curve.prime(), curve.polynomial(), tops(one), place)


def sign_taken(curve, place, count):
    """The local sign of a place taken so many times."""
    p, f = curve.prime(), curve.polynomial()
    return Function(curve, *reckoning.function_taken(p, f, reckoning.sign(f, place), count))


def heads_at(curve, places, seed, most=3):
    """Heads with functions that have, at their places, poles of orders up to about so much, and some that are 0."""
    stream = Stream(seed)
    told = mixed_functions(curve, seed, 4, 2) + plain_functions(curve)
    found = []
    for place in sorted(places, key=place_key):
        one = told[stream.below(len(told))]
        power = stream.below(most + 2) - 1 if reckoning.degree(place) < 4 else stream.below(2)
        found.append((place, product_of(one, sign_taken(curve, place, -power))))
    return found


def wrong_heads(curve):
    """Values that are no heads on a curve."""
    one, other = plain_and_turned(curve)
    x = Function(curve, [0, 1], [], [1])
    never = [None, True, False, 0, 1, "", "[]", (), ((), x), (((), x),), {}, {(): x}, nested(30), curve, x, [None],
             [True], [0], [""], [()], [((),)], [((), x, x)], [[(), x]], [((), x), None], [{(): x}], [[((), x)]],
             [nested(29)], [curve], [x], InvalidHeads([]), [(x, ())], [((), ())], [((), curve)], [((), None)],
             ((one, x), (other, x)), [[one, x], [other, x]], [one, other], [((), [x])], [((), (x,))]]
    functions = [[((), function)] for function in functions_of_other_curves(curve)]
    functions += [[(one, x), (other, function)] for function in functions_of_other_curves(curve)[-3:] + [0, None]]
    orders = [[((), x), ((), x)], [(one, x), (one, x)], [(one, x), ((), x)], [(other, x), (one, x)],
              [((), x), (other, x), (one, x)], [(one, x), (other, x), (one, x)], [(one, x), (other, x), ((), x)]]
    places = [[(place, x)] for place in wrong_places(curve)[::4]]
    places += [[((), x), (place, x)] for place in (plain_place(curve, 13), wide_place(curve, 13), None, ([0, 1], True))]
    f, p = curve.polynomial(), curve.prime()
    others = [place for place in low_places(Curve(p, [1, 1])) if place not in
              reckoning.places_by_trying(p, f, place[0])]
    return never + functions + orders + places + [[(others[0], x)], [((), x), (others[-1], x)]]


def function_less(curve, one, other):
    return Function(curve, *reckoning.function_less(curve.prime(), tops(one), tops(other)))


def lets_there(curve, bundle, place, one):
    number = dict((repr(named), number) for named, number in bundle).get(repr(place), 0)
    return not one or orders_at(curve, place, one) >= -number


def fits_by_orders(curve, bundle, heads, one):
    """Whether a function fits, by its orders and by those of what it is more than the function of each head."""
    if not all(lets_there(curve, bundle, place, function_less(curve, one, head)) for place, head in heads):
        return False
    if not one:
        return True
    named = [repr(place) for place, _ in heads]
    beside = [(place, number) for place, number in bundle if repr(place) not in named]
    beside += [(place, max(0, -orders_at(curve, place, one))) for place, _ in heads]
    return is_let(curve, sorted(beside, key=lambda told: place_key(told[0])), one)


def residues_of_heads(curve, heads, one):
    """The sum of residues that a function has with heads."""
    return sum(residue_of(curve, product_of(one, head), place) for place, head in heads) % curve.prime()


def bars_by_residues(curve, bundle, heads, one):
    """Whether a function is a bar, by orders and residues."""
    return is_above_by_orders(curve, one, bundle) and residues_of_heads(curve, heads, one) != 0
