"""Promise [3], for spaces and differentials: each function answers within seconds at its limits."""

import unittest

from curveheads.bundles import is_bundle
from curveheads.differentials import (
    differential_bundle, differential_order, differentials_above, is_above, parts_without_poles, without_poles)
from curveheads.forms import form_of
from curveheads.functions import Function, product_of, quotient_of
from curveheads.places import places_of
from curveheads.reduced import least_two, lets, near_parts, nearly_lets, two_fars
from curveheads.spaces import (
    dual, first_along, fixed_part, space_basis, space_made, space_parts, space_size)
from tests import reckoning
from tests.bundle_samples import in_order, plain_and_turned
from tests.place_samples import branches, low_places, plain_place, wide_place
from tests.samples import PRIMES, curves_over, first_primes
from tests.space_samples import degree_of
from tests.test_limits import TimedTest, great_function, great_polynomial


def summing_to(places, wanted):
    """Places with numbers of one sign, none above 30, that sum to about so much, each times the degree of its place."""
    sign, left = 1 if wanted > 0 else -1, abs(wanted) - sum(reckoning.degree(place) for place in places)
    told = []
    for place in places:
        more = max(0, min(29, left // reckoning.degree(place)))
        left -= more * reckoning.degree(place)
        told.append((place, sign * (1 + more)))
    return told


def of_twelve_places(curve):
    """Bundles of twelve places of all sorts, of low degrees: with numbers above 0 alone, below 0 alone, and both."""
    told = sorted(low_places(curve), key=reckoning.degree)
    plain, others = [place for place in told if place[1]], [(), *[place for place in told if not place[1]][:4]]
    if not any(place and place[1] == [] for place in others):
        others[-1:] = branches(curve)[:1]
    every = others + plain[:12 - len(others)]
    return [summing_to(every, 40), summing_to(every, -40), summing_to(every[1::2], 20) + summing_to(every[::2], -20),
            summing_to(plain[:6], 36) + summing_to(others + plain[6:7], -40)]


def great_bundles(curve):
    """Bundles at the limits: of one place, of twelve, and with places over prime polynomials of the power 12."""
    one, other = plain_and_turned(curve)
    high, high_wide, e = plain_place(curve, 12), wide_place(curve, 12), reckoning.degree(one)
    found = [
        [(one, 30 // e)], [(one, -30 // e)], [(one, 20 // e), (other, -20 // e)], [((), 30), (one, 10 // e)],
        [((), -30), (other, 30 // e)], [(high, 3)], [(high, -3)], [(high_wide, 1)], [(high, -1), (high_wide, -1)],
        [((), 16), (high, -2), (high_wide, 1)], [((), 30)], [((), -30)]]
    return [in_order(bundle) for bundle in found + of_twelve_places(curve)]


class SpacesLimitsTest(TimedTest):
    def test_these_are_great_bundles(self):
        for p in PRIMES:
            for curve in curves_over(p)[1::2]:
                told = great_bundles(curve)
                for bundle in told:
                    self.assertIs(is_bundle(curve, bundle), True)
                    self.assertTrue(all(abs(number) < 31 for _, number in bundle))
                    ends = [number * reckoning.degree(place) for place, number in bundle]
                    self.assertLess(sum(end for end in ends if end > 0), 41)
                    self.assertGreater(sum(end for end in ends if end < 0), -41)
                    self.assertLess(max(len(part) for part in form_of(curve, bundle)[:4]), 42)
                self.assertEqual([len(bundle) for bundle in told[-4:]], [12] * 4)
                degrees = [degree_of(bundle) for bundle in told]
                self.assertGreater(max(degrees), 36)
                self.assertLess(min(degrees), -36)

    def test_least_two(self):
        for p in PRIMES:
            for curve in curves_over(p)[p % 4::4]:
                great = great_function(curve, 1)
                for bundle in great_bundles(curve):
                    even, odd = self.within_seconds(least_two, curve, bundle)
                    self.assertEqual(sum(self.within_seconds(two_fars, curve, bundle)), len(
                        curve.polynomial()) - 1 - 2 * degree_of([one for one in bundle if one[0]]))
                    high = product_of(even, great_polynomial(curve, first_primes(p, 12, 10)))
                    told = self.within_seconds(near_parts, curve, bundle, high)
                    self.assertEqual(len(told[0]), 121)
                    self.assertIs(self.within_seconds(nearly_lets, curve, bundle, high), True)
                    for one in (great, odd, high):
                        self.within_seconds(lets, curve, bundle, one)
                        self.within_seconds(near_parts, curve, bundle, one)

    def test_spaces(self):
        for p in PRIMES:
            for curve in curves_over(p)[p % 4::4]:
                great = great_function(curve, 2)
                places = places_of(curve, 1)
                for bundle in great_bundles(curve):
                    basis = self.within_seconds(space_basis, curve, bundle)
                    self.assertEqual(self.within_seconds(space_size, curve, bundle), len(basis))
                    numbers = [1 + at % (p - 1) for at in range(len(basis))]
                    made = self.within_seconds(space_made, curve, bundle, numbers)
                    self.assertEqual(self.within_seconds(space_parts, curve, bundle, made), numbers)
                    self.assertIsNone(self.within_seconds(space_parts, curve, bundle, great))
                    self.within_seconds(fixed_part, curve, bundle)
                    other = self.within_seconds(dual, curve, bundle)
                    self.assertEqual(len(basis) - self.within_seconds(space_size, curve, other),
                                     degree_of(bundle) - curve.genus() + 1)
                    for place in (places[0], places[-1]):
                        number, one = self.within_seconds(first_along, curve, bundle, place)
                        self.assertIn(number + degree_of(bundle), range(curve.genus() + 1))
                        self.assertTrue(one)


class DifferentialsLimitsTest(TimedTest):
    def test_bundles(self):
        for p in PRIMES:
            for curve in curves_over(p)[p % 4::4]:
                great = great_function(curve, 3)
                for bundle in great_bundles(curve):
                    told = self.within_seconds(differentials_above, curve, bundle)
                    for one in told[-1:]:
                        self.assertIs(self.within_seconds(is_above, curve, one, bundle), True)
                    self.assertIs(self.within_seconds(is_above, curve, great, bundle), False)

    def test_functions_of_the_power_200(self):
        for p in PRIMES:
            for curve in curves_over(p)[p % 4::4]:
                great = great_function(curve, 4)
                for place in [(), *branches(curve), plain_place(curve, 12), wide_place(curve, 12)]:
                    self.assertIs(type(self.within_seconds(differential_order, curve, great, place)), int)
                self.assertIsNone(self.within_seconds(parts_without_poles, curve, great))
                self.assertEqual(len(self.within_seconds(without_poles, curve)), curve.genus())

    def test_bundles_of_great_differentials(self):
        for p in PRIMES:
            for curve in curves_over(p)[3::4]:
                primes = first_primes(p, 12, 32)
                one = quotient_of(great_polynomial(curve, primes[:16]), great_polynomial(curve, primes[16:]))
                told = self.within_seconds(differential_bundle, curve, product_of(one, Function(curve, [], [1], [1])))
                self.assertEqual(degree_of(told), 2 * curve.genus() - 2)


if __name__ == "__main__":
    unittest.main()
