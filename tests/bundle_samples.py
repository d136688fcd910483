"""Bundles and forms of all sorts, and values that are none."""

from curveheads.curves import Curve
from curveheads.errors import InvalidBundle, InvalidForm
from curveheads.functions import Function
from tests import reckoning
from tests.place_samples import branches, low_places, plain_place, wide_place, wrong_places
from tests.samples import Stream, nested, never_whole


def place_key(place):
    """What stands in Python's order as a place does in the order of places."""
    return (len(place[0]), place[0], place[1] or []) if place else (0, [], [])


def in_order(numbered):
    """Tuples of places and numbers in the order of places, without those with the number 0."""
    return sorted([one for one in numbered if one[1]], key=lambda one: place_key(one[0]))


def places_to_take(curve):
    """The far place, and near ones of all sorts and of powers to 3, plain ones together with the turned ones."""
    told = low_places(curve)
    plain, wide = [place for place in told if place[1]], [place for place in told if place[1] is None]
    found = [(), *plain[:4], *plain[-2:], *branches(curve)[:2], *wide[:2], *wide[-1:]]
    return [place for at, place in enumerate(found) if place not in found[:at] and (not place or len(place[0]) < 5)]


def plain_and_turned(curve):
    """A plain place with a prime polynomial of the least power, and the one turned about."""
    return [place for place in low_places(curve) if place[1]][:2]


def some_bundles(curve):
    """The empty bundle, and bundles at places of all sorts, each alone and some together."""
    one, other = plain_and_turned(curve)
    branch, wide = branches(curve)[0], [place for place in low_places(curve) if place[1] is None][0]
    told = [[], [((), 1)], [((), -3)], [(one, 1)], [(one, -2)], [(one, 2), (other, 2)], [(one, 3), (other, -1)],
            [(one, -2), (other, -1)], [(branch, 1)], [(branch, 2)], [(branch, -1)], [(branch, -3)], [(wide, 1)],
            [(wide, -2)], [((), 2), (one, 1), (branch, 1), (wide, -1)], [((), -1), (other, 4), (branch, -2), (wide, 1)]]
    return [in_order(bundle) for bundle in told]


def mixed_bundles(curve, seed, many, most=3):
    """Bundles at some of the places, with numbers from nought less a bound to the bound."""
    stream, places = Stream(seed), places_to_take(curve)
    found = []
    for _ in range(many):
        told = [(place, stream.below(2 * most + 1) - most) for place in places if stream.below(2)]
        found.append(in_order(told))
    return found


def wrong_bundles(curve):
    """Values that are no bundles of a curve."""
    one, other = plain_and_turned(curve)
    p, f = curve.prime(), curve.polynomial()
    never = [
        None, True, False, 0, 1, "", "[]", (), ((), 1), (((), 1),), {}, {(): 1}, nested(30), curve, [None], [True], [0],
        [""], [()], [((),)], [((), 1, 1)], [[(), 1]], [((), 1), None], [{(): 1}], [[((), 1)]], [nested(29)], [curve],
        Function(curve, [1], [], [1]), InvalidBundle([]), [(1, ())], [((), ())], [((), curve)], [((), "1")],
    ]
    numbers = [[((), number)] for number in never_whole() + [0]] + [[(one, number)] for number in (True, False, 0, None)]
    orders = [
        [((), 1), ((), 1)], [(one, 1), (one, 1)], [(one, 1), ((), 1)], [(other, 1), (one, 1)],
        [((), 1), (other, 1), (one, -1)], [(([1, 1, 1], None), 1), ((), 1)], [(one, 1), (other, 1), (one, 1)],
        [((), 2), (one, 0)], [(one, 0), (other, 1)], ((one, 1), (other, 1)), [[one, 1], [other, 1]], [one, other],
    ]
    places = [[(place, 1)] for place in wrong_places(curve)[::4]]
    places += [[((), 1), (place, 1)] for place in (plain_place(curve, 13), wide_place(curve, 13), None, ([0, 1], True))]
    places += [[(tuple(one), 1)] for one in (list(one) + [1],)] + [[((tuple(one[0]), one[1]), 1)], [(list(one), 1)]]
    others = [place for place in low_places(Curve(p, [1, 1])) if place not in
              reckoning.places_by_trying(p, f, place[0])]
    return never + numbers + orders + places + [[(others[0], 1)], [((), 1), (others[-1], -1)]]


def is_of_bundle(curve, form, bundle, places):
    """Whether a form stands for a bundle at some places, by the orders of both functions that [20] names."""
    p, f = curve.prime(), curve.polynomial()
    top, bottom, u, v, far = form
    one = (reckoning.times(p, top, u), [], bottom)
    other = (reckoning.times(p, top, reckoning.less(p, [], v)), top, bottom)
    numbers = dict((repr(place), number) for place, number in bundle)
    for place in places:
        found = far if not place else min(reckoning.order(p, f, one, place), reckoning.order(p, f, other, place))
        if found != numbers.get(repr(place), 0):
            return False
    return True


def wrong_forms(curve):
    """Values that are no forms of a curve."""
    p, f = curve.prime(), curve.polynomial()
    (q, w), _ = plain_and_turned(curve)
    good = ([1], [1], q, w, 0)
    parts = [None, True, 0, 1, "", "1", (), (1,), {}, [True], [0], [1, 0], [p], [-1], [None], [[1]], nested(29), curve]
    found = [None, True, False, 0, 1, "", [], (), {}, nested(30), curve, Function(curve, [1], [], [1]), InvalidForm(()),
             list(good), good[:4], good + (0,), (good,), [good], ([1], [1], [1], 0), (0, [1], [1], [1], []),
             ([1], [1], [1], [], [0]), {"top": [1]}]
    for at in range(4):
        found.extend(good[:at] + (part,) + good[at + 1:] for part in parts)
    found.extend(good[:4] + (number,) for number in never_whole())
    high = reckoning.times(p, q, q)
    wrong_w = [number for number in range(p) if reckoning.rest(
        p, reckoning.less(p, f, [number * number % p] if number else []), q)]
    found.extend([
        ([], [1], q, w, 0), ([1], [], q, w, 0), ([1], [1], [], [], 0), ([2], [1], q, w, 0), ([1], [2], q, w, 0),
        ([1], [1], [number * 2 % p for number in q], w, 0), ([0, 2], [1], q, w, 0), ([0, 1], [0, 1], q, w, 0),
        ([0, 1, 1], [0, 1], q, w, 0), (high, q, q, w, 0), ([1], [1], [1], [1], 0), ([1], [1], q, q, 0),
        ([1], [1], q, reckoning.plus(p, w, q), 0), ([1], [1], q, reckoning.plus(p, w, high), 0),
        ([1], [1], high, reckoning.plus(p, reckoning.lifted(p, f, (q, w), 2), q), 0),
        ([1], [1], reckoning.times(p, branches(curve)[0][0], branches(curve)[0][0]), [], 0)])
    found.extend(([1], [1], q, [number] if number else [], 0) for number in wrong_w)
    wide = [place[0] for place in low_places(curve) if place[1] is None][0]
    found.extend([([1], [1], wide, [], 0), ([1], [1], wide, [1], 0), ([1], [1], reckoning.times(p, q, wide), w, 0)])
    return found
