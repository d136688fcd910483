"""Promise [3], for spaces and differentials: each function answers within seconds at its limits."""

import unittest

from curveheads.bundles import is_bundle
from curveheads.differentials import (
    differential_bundle, differential_order, differentials_above, is_above, parts_without_poles, without_poles)
from curveheads.functions import Function, product_of, quotient_of
from curveheads.places import places_of
from curveheads.reduced import least_two, lets, near_parts, nearly_lets, two_fars
from curveheads.spaces import (
    dual, first_along, fixed_part, space_basis, space_made, space_parts, space_size)
from tests import reckoning
from tests.bundle_samples import in_order, plain_and_turned
from tests.place_samples import branches, low_places, plain_place, wide_place
from tests.samples import PRIMES, curves_over, first_primes
from tests.space_samples import degree_of
from tests.test_limits import TimedTest, great_function, great_polynomial


def of_degrees(curve, above, below, places):
    """A bundle of at most 12 places, whose numbers, times the degrees, sum to about so much above 0 and below it."""
    told, left = [], [above, below]
    for at, place in enumerate(places[:12]):
        degree = reckoning.degree(place)
        number = min(30, left[at % 2] // degree, 1 + at * 3)
        left[at % 2] -= number * degree
        told.append((place, number if at % 2 == 0 else -number))
    if left[0] and 0 < left[0] <= 30 and () not in places[:12]:
        told.append(((), left[0]))
    return in_order(told)


def great_bundles(curve):
    """Bundles at the limits: of one place, of twelve, and with places over prime polynomials of the power 12."""
    plain = [place for place in low_places(curve) if place[1]]
    wide = [place for place in low_places(curve) if place[1] is None]
    one, other = plain_and_turned(curve)
    high, high_wide, e = plain_place(curve, 12), wide_place(curve, 12), reckoning.degree(one)
    mixed = [*plain[:3], *wide[:2], *branches(curve)[:1], *plain[6:11]]
    found = [
        [(one, 30 // e)], [(one, -30 // e)], [(one, 30 // e), (other, -30 // e)], [((), 30), (one, 10 // e)],
        [((), -30), (other, 30 // e)], of_degrees(curve, 40, 40, mixed), of_degrees(curve, 40, 0, mixed[::2] + plain[20:26]),
        of_degrees(curve, 0, 40, mixed), of_degrees(curve, 39, 40, [()] + mixed), [(high, 3)], [(high, -3)],
        [(high_wide, 1)], [(high, -1), (high_wide, -1)], [((), 16), (high, -2), (high_wide, 1)], [((), 30)], [((), -30)]]
    return [in_order(bundle) for bundle in found]


class SpacesLimitsTest(TimedTest):
    def test_these_are_great_bundles(self):
        for p in PRIMES:
            for curve in curves_over(p)[1::2]:
                told = great_bundles(curve)
                for bundle in told:
                    self.assertIs(is_bundle(curve, bundle), True)
                    self.assertLess(len(bundle), 13)
                    self.assertTrue(all(abs(number) < 31 for _, number in bundle))
                    ends = [number * reckoning.degree(place) for place, number in bundle]
                    self.assertLessEqual(sum(end for end in ends if end > 0), 40)
                    self.assertGreaterEqual(sum(end for end in ends if end < 0), -40)
                self.assertGreater(max(len(bundle) for bundle in told), 9)

    def test_least_two(self):
        for p in PRIMES:
            for curve in curves_over(p)[1::2]:
                great = great_function(curve, 1)
                for bundle in great_bundles(curve):
                    even, odd = self.within_seconds(least_two, curve, bundle)
                    self.assertEqual(sum(self.within_seconds(two_fars, curve, bundle)), len(
                        curve.polynomial()) - 1 - 2 * degree_of([one for one in bundle if one[0]]))
                    high = product_of(even, great_polynomial(curve, first_primes(p, 12, 10)))
                    told = self.within_seconds(near_parts, curve, bundle, high)
                    self.assertEqual(len(told[0]), 121)
                    self.assertIs(self.within_seconds(nearly_lets, curve, bundle, high), True)
                    for one in (great, odd, high):
                        self.within_seconds(lets, curve, bundle, one)
                        self.within_seconds(near_parts, curve, bundle, one)

    def test_spaces(self):
        for p in PRIMES:
            for curve in curves_over(p)[1::2]:
                great = great_function(curve, 2)
                places = places_of(curve, 1)
                for bundle in great_bundles(curve):
                    basis = self.within_seconds(space_basis, curve, bundle)
                    self.assertEqual(self.within_seconds(space_size, curve, bundle), len(basis))
                    numbers = [1 + at % (p - 1) for at in range(len(basis))]
                    made = self.within_seconds(space_made, curve, bundle, numbers)
                    self.assertEqual(self.within_seconds(space_parts, curve, bundle, made), numbers)
                    self.assertIsNone(self.within_seconds(space_parts, curve, bundle, great))
                    self.within_seconds(fixed_part, curve, bundle)
                    other = self.within_seconds(dual, curve, bundle)
                    self.assertEqual(len(basis) - self.within_seconds(space_size, curve, other),
                                     degree_of(bundle) - curve.genus() + 1)
                    for place in (places[0], places[-1]):
                        number, one = self.within_seconds(first_along, curve, bundle, place)
                        self.assertIn(number + degree_of(bundle), range(curve.genus() + 1))
                        self.assertTrue(one)


class DifferentialsLimitsTest(TimedTest):
    def test_bundles(self):
        for p in PRIMES:
            for curve in curves_over(p)[1::2]:
                great = great_function(curve, 3)
                for bundle in great_bundles(curve):
                    told = self.within_seconds(differentials_above, curve, bundle)
                    for one in told[-1:]:
                        self.assertIs(self.within_seconds(is_above, curve, one, bundle), True)
                    self.assertIs(self.within_seconds(is_above, curve, great, bundle), False)

    def test_functions_of_the_power_200(self):
        for p in PRIMES:
            for curve in curves_over(p)[1::2]:
                great = great_function(curve, 4)
                for place in [(), *branches(curve), plain_place(curve, 12), wide_place(curve, 12)]:
                    self.assertIs(type(self.within_seconds(differential_order, curve, great, place)), int)
                self.assertIsNone(self.within_seconds(parts_without_poles, curve, great))
                self.assertEqual(len(self.within_seconds(without_poles, curve)), curve.genus())

    def test_bundles_of_great_differentials(self):
        for p in PRIMES:
            for curve in curves_over(p)[3::4]:
                primes = first_primes(p, 12, 32)
                one = quotient_of(great_polynomial(curve, primes[:16]), great_polynomial(curve, primes[16:]))
                told = self.within_seconds(differential_bundle, curve, product_of(one, Function(curve, [], [1], [1])))
                self.assertEqual(degree_of(told), 2 * curve.genus() - 2)


if __name__ == "__main__":
    unittest.main()
