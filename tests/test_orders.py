"""Promise [15]: orders of functions at places. With [2]."""

import unittest

from curveheads.curves import Curve
from curveheads.errors import InvalidCurve, InvalidFunction, InvalidPlace
from curveheads.functions import (
    Function, far_order, norm, power_of, product_of, quotient_of, sum_of, turned)
from curveheads.orders import order_at
from curveheads.places import place_turned, places_over
from curveheads.primes import factors
from tests import reckoning
from tests.place_samples import branches, low_places, plain_place, some_places, wide_place, wrong_places
from tests.samples import (
    PRIMES, Stream, all_curves, assert_each_refused, assert_refused, curves_over, mixed_functions, plain_functions,
    tops, trimmed, wrong_curves, wrong_functions)


def samples(curve, seed, many=5, most=3):
    return plain_functions(curve) + mixed_functions(curve, seed, many, most)


def begun_at(curve, place):
    """Functions whose top, side and bottom a prime polynomial divides more or less often, or whose order is great."""
    p, stream = curve.prime(), Stream(5)
    q, w = place
    found = []
    for often in [(0, 0, 1), (1, 1, 0), (2, 1, 0), (1, 2, 0), (0, 1, 2), (1, 0, 3), (3, 3, 0), (0, 3, 0), (3, 0, 0)]:
        told = [reckoning.times(p, stream.full_polynomial(p, 2), reckoning.taken(p, q, times)) for times in often]
        found.extend([Function(curve, *told), Function(curve, told[0], [], told[2]), Function(curve, [], *told[1:])])
    if w:
        # The function y less a polynomial that begins like y has as great an order as one wants.
        for count in (1, 2, 3, 5):
            root = reckoning.less(p, [], reckoning.lifted(p, curve.polynomial(), place, count))
            high = reckoning.taken(p, q, 2)
            found.extend([Function(curve, root, [1], [1]), Function(curve, root, [1], high),
                          Function(curve, reckoning.times(p, root, high), high, [1]),
                          Function(curve, reckoning.plus(p, root, high), [1], [1])])
    return found


def all_orders(curve, function):
    """The tuples of a place and the order there, for all places at which the order may not be 0."""
    p, top, bottom = curve.prime(), norm(function).top(), function.bottom()
    primes = sorted([q for q, _ in factors(p, top)] + [q for q, _ in factors(p, bottom)])
    places = [()] + [place for at, q in enumerate(primes) if q not in primes[:at] for place in places_over(curve, q)]
    return [(place, order_at(curve, function, place)) for place in places]


class OrderTest(unittest.TestCase):
    def assert_order(self, curve, one, place):
        told = order_at(curve, one, place)
        self.assertIs(type(told), int)
        self.assertEqual(told, reckoning.order(curve.prime(), curve.polynomial(), tops(one), place), place)

    def test_functions_without_a_plan(self):
        for curve in all_curves():
            for one in samples(curve, 1):
                for place in some_places(curve):
                    if one:
                        self.assert_order(curve, one, place)

    def test_functions_with_zeros_and_poles_there(self):
        for curve in all_curves()[::2]:
            plain = [place for place in low_places(curve) if place[1]]
            wide = [place for place in low_places(curve) if place[1] is None]
            for place in [plain[0], plain[-1], branches(curve)[0], wide[-1]]:
                for one in begun_at(curve, place):
                    for at in (place, (), place_turned(curve, place)):
                        self.assert_order(curve, one, at)

    def test_all_sorts_of_orders_are_among_these(self):
        bend = []
        for curve in curves_over(7):
            plain = [place for place in low_places(curve, 1) if place[1]][0]
            told = {order_at(curve, one, plain) for one in begun_at(curve, plain)}
            self.assertLessEqual({-3, -2, -1, 0, 1, 2, 3, 5}, told)
            bend.extend(order_at(curve, one, branches(curve)[0]) for one in begun_at(curve, branches(curve)[0]))
        self.assertLessEqual(set(range(-7, 8)) - {-3}, set(bend))

    def test_primes_of_the_power_12(self):
        for curve in [one for p in PRIMES for one in curves_over(p)[1::2]]:
            p = curve.prime()
            q, w = plain_place(curve, 12)
            wide = wide_place(curve, 12)
            begun = Function(curve, reckoning.less(p, [], reckoning.lifted(p, curve.polynomial(), (q, w), 2)), [1], [1])
            for place, one, order in [
                    ((q, w), begun, 2), ((q, reckoning.less(p, [], w)), begun, 0),
                    ((q, w), Function(curve, reckoning.less(p, [], w), [1], q), 0),
                    ((q, reckoning.less(p, [], w)), Function(curve, reckoning.less(p, [], w), [1], q), -1),
                    (wide, Function(curve, wide[0], [0] + wide[0], [1]), 1),
                    (wide, Function(curve, [1], [0, 1], reckoning.times(p, wide[0], wide[0])), -2),
                    (wide, Function(curve, wide[0], [0, 1], [1]), 0)]:
                self.assertEqual(order_at(curve, one, place), order)

    def test_polynomials_and_y(self):
        for curve in all_curves():
            p, f = curve.prime(), curve.polynomial()
            y = Function(curve, [], [1], [1])
            for place in some_places(curve)[1:]:
                q, w = place
                e = 2 if w == [] else 1
                self.assertEqual(order_at(curve, y, place), 1 if w == [] else 0)
                for times in (0, 1, 2, 4):
                    one = reckoning.times(p, reckoning.taken(p, q, times), [1 % p, 0, 0, 2])
                    extra = reckoning.times_divided(p, [1, 0, 0, 2], q)
                    if len(one) <= 61:
                        told = order_at(curve, Function(curve, one, [], [1]), place)
                        self.assertEqual(told, e * (times + extra))
                        self.assertEqual(order_at(curve, Function(curve, [1], [], one), place), -e * (times + extra))
            self.assertEqual(order_at(curve, y, ()), 1 - len(f))
            self.assertEqual(order_at(curve, Function(curve, [1, 0, 0, 2], [], [1]), ()), -6)
            self.assertEqual(order_at(curve, Function(curve, [1], [], [1, 0, 0, 2]), ()), 6)

    def test_nought_and_numbers(self):
        for curve in all_curves():
            for place in some_places(curve):
                for bottom in ([1], [0, 1]):
                    self.assertIsNone(order_at(curve, Function(curve, [], [], bottom), place))
                for number in range(1, curve.prime()):
                    self.assertEqual(order_at(curve, Function(curve, [number], [], [1]), place), 0)

    def test_products_and_quotients(self):
        for curve in all_curves()[::3]:
            told = [one for one in samples(curve, 2, 3) if one]
            for place in some_places(curve)[::3]:
                orders = [order_at(curve, one, place) for one in told]
                for left, one in zip(orders, told):
                    for right, other in list(zip(orders, told))[::3]:
                        self.assertEqual(order_at(curve, product_of(one, other), place), left + right)
                        self.assertEqual(order_at(curve, quotient_of(one, other), place), left - right)

    def test_sums(self):
        for curve in all_curves()[::3]:
            for place in some_places(curve)[::2]:
                told = mixed_functions(curve, 3, 3, 3) + plain_functions(curve)[:5]
                if place and len(place[0]) < 4:
                    told = told[:4] + begun_at(curve, place)[::5]
                for one in told:
                    for other in told[::3]:
                        added = sum_of(one, other)
                        ends = [order_at(curve, part, place) for part in (one, other) if part]
                        if not added:
                            self.assertIsNone(order_at(curve, added, place))
                        elif len(ends) < 2 or ends[0] != ends[1]:
                            self.assertEqual(order_at(curve, added, place), min(ends))
                        else:
                            self.assertGreaterEqual(order_at(curve, added, place), min(ends))

    def test_powers(self):
        for curve in all_curves()[::3]:
            one = Function(curve, [1, 1], [1], [2, 1])
            for place in low_places(curve, 1):
                order = order_at(curve, one, place)
                for exponent in (-20, -3, 2, 13, 20):
                    self.assertEqual(order_at(curve, power_of(one, exponent), place), order * exponent)

    def test_functions_and_places_turned(self):
        for curve in all_curves():
            for one in samples(curve, 4, 3):
                for place in some_places(curve)[1:-1:2]:
                    told = order_at(curve, turned(one), place_turned(curve, place))
                    self.assertEqual(told, order_at(curve, one, place))

    def test_the_far_place(self):
        for curve in all_curves():
            for one in samples(curve, 5):
                if one:
                    self.assertEqual(order_at(curve, one, ()), -far_order(one))

    def test_all_orders_sum_to_nought(self):
        for curve in all_curves():
            p, stream = curve.prime(), Stream(6)
            told = [one for one in plain_functions(curve) if one]
            # Norms of a power of at most 12 have no prime factors of greater powers.
            for at in range(8):
                top, side = stream.full_polynomial(p, at % 7), stream.polynomial(p, min(2, at % 4))
                told.append(Function(curve, top, trimmed(side), stream.full_polynomial(p, at % 5)))
            for one in told:
                orders = all_orders(curve, one)
                self.assertEqual(sum(order * reckoning.degree(place) for place, order in orders), 0)
                for place, order in orders:
                    self.assert_order(curve, one, place)

    def test_orders_elsewhere_are_nought(self):
        for curve in all_curves():
            for one in samples(curve, 7):
                if one:
                    p, above = curve.prime(), reckoning.times(curve.prime(), norm(one).top(), one.bottom())
                    for place in low_places(curve, 2)[::3]:
                        if reckoning.rest(p, above, place[0]):
                            self.assertEqual(order_at(curve, one, place), 0)

    def test_arguments_by_name(self):
        curve = Curve(5, [1, 1, 0, 1])
        told = order_at(place=([0, 1], [1]), function=Function(curve, [4], [1], [1]), curve=curve)
        self.assertEqual(told, 1)

    def test_wrong_arguments(self):
        for curve in [one for p in PRIMES for one in curves_over(p)[2::4]]:
            p = curve.prime()
            other = Curve(p, [1, 1])
            functions = wrong_functions() + plain_functions(other) + [
                Function(Curve(3 if p > 3 else 5, [1, 1]), [1], [], [1])]
            wrong = {"curve": (InvalidCurve, wrong_curves()), "function": (InvalidFunction, functions),
                     "place": (InvalidPlace, wrong_places(curve))}
            for one in plain_functions(curve)[::3]:
                assert_each_refused(self, order_at, {"curve": curve, "function": one, "place": ()}, wrong)

    def test_the_place_is_checked_for_nought_too(self):
        for curve in all_curves():
            nought = Function(curve, [], [], [1])
            for place in (None, ([0, 1], True), [()], wide_place(curve, 13), plain_place(curve, 13)):
                assert_refused(self, InvalidPlace, place, order_at, curve, nought, place)

    def test_equal_curves_count_as_the_same(self):
        one = Function(Curve(5, [1, 1, 0, 1]), [4], [1], [1])
        self.assertEqual(order_at(Curve(5, [1, 1, 0, 1]), one, ([0, 1], [1])), 1)

    def test_arguments_stay(self):
        for curve in curves_over(7):
            for one in samples(curve, 8):
                for place in some_places(curve):
                    kept = repr((tops(one), place))
                    first = order_at(curve, one, place)
                    self.assertEqual(order_at(curve, one, place), first)
                    self.assertEqual(repr((tops(one), place)), kept)


if __name__ == "__main__":
    unittest.main()
