"""Promise [3], for series, bundles and forms: each function answers within seconds at its limits."""

import unittest

from curveheads.bundles import (
    bundle_degree, bundle_of, bundle_sum, bundle_times, bundle_turned, is_bundle, number_at, poles_of)
from curveheads.forms import composed, form_bundle, form_of, form_opposite, is_form, shares
from curveheads.functions import Function, product_of, quotient_of, turned
from curveheads.joined import is_joining, is_of_function, joining, least_form
from curveheads.places import places_over
from curveheads.series import begun, is_series, local_sign, series, value_at
from tests import reckoning
from tests.bundle_samples import in_order, places_to_take, plain_and_turned
from tests.place_samples import branches, low_places, plain_place, wide_place
from tests.samples import PRIMES, curves_over, first_primes
from tests.test_limits import TimedTest, great_function, great_polynomial
from tests.test_series import mixed_series


def great_places(curve):
    """Places at which series are made: two with prime polynomials of the power 12 among them."""
    return [(), *branches(curve)[:1], *plain_and_turned(curve)[:1], low_places(curve, 1)[-1],
            plain_place(curve, 12), wide_place(curve, 12)]


def twelve_places(curve):
    """The far place, ten near ones with prime polynomials of the power 12, and a branch."""
    primes = first_primes(curve.prime(), 12, 14)
    near = [place for q in primes for place in places_over(curve, q)]
    return [(), *branches(curve)[:1], *near[:10]]


def form_of_the_power_40(curve, sign):
    """The form of a bundle of plain places with a u of a power of about 40, and 20 powers of x above or below it."""
    told, used = [], 0
    for place in [one for one in low_places(curve) if one[1]][::2]:
        number = min(30, (40 - used) // reckoning.degree(place))
        if number and len(told) < 10:
            told.append((place, sign * number))
            used += number * reckoning.degree(place)
    return form_of(curve, in_order(told))


class SeriesLimitsTest(TimedTest):
    def test_functions_of_the_power_200(self):
        for p in PRIMES:
            for curve in curves_over(p)[1::2]:
                one = great_function(curve, 1)
                for place in great_places(curve):
                    order, values = self.within_seconds(series, curve, one, place, 24)
                    self.assertEqual(len(values), 24)
                    self.assertEqual(self.within_seconds(value_at, curve, one, place),
                                     values[0] if order == 0 else None if order < 0 else reckoning.nought_at(place))

    def test_orders_of_40(self):
        for p in PRIMES:
            for curve in curves_over(p)[1::2]:
                for place in great_places(curve):
                    self.within_seconds(local_sign, curve, place)
                    for order in (-40, 40):
                        told = mixed_series(curve, place, order, order, 24)
                        self.assertIs(self.within_seconds(is_series, curve, place, told), True)
                        one = self.within_seconds(begun, curve, place, told)
                        self.assertEqual(self.within_seconds(series, curve, one, place, 24), told)

    def test_functions_that_begin_like_y(self):
        for p in PRIMES:
            for curve in curves_over(p)[1::2]:
                for place in (plain_and_turned(curve)[0], plain_place(curve, 12)):
                    count = min(40, 60 // (len(place[0]) - 1))
                    root = reckoning.less(p, [], reckoning.lifted(p, curve.polynomial(), place, count))
                    one = Function(curve, root[:61], [1], [1])
                    told = self.within_seconds(series, curve, one, place, 24)
                    self.assertGreater(told[0], 0)


class BundlesLimitsTest(TimedTest):
    def test_bundles_of_twelve_places(self):
        for p in PRIMES:
            for curve in curves_over(p)[1::2]:
                places = twelve_places(curve)
                self.assertEqual(len(places), 12)
                one = in_order([(place, 30 - 60 * (at % 2)) for at, place in enumerate(places)])
                other = in_order([(place, 30) for place in places])
                for bundle in (one, other):
                    self.assertIs(self.within_seconds(is_bundle, curve, bundle), True)
                    self.assertEqual(self.within_seconds(number_at, curve, bundle, places[1]), dict(
                        (repr(place), number) for place, number in bundle)[repr(places[1])])
                    self.within_seconds(bundle_degree, curve, bundle)
                    self.assertEqual(len(self.within_seconds(bundle_times, curve, bundle, -20)), 12)
                    self.assertEqual(len(self.within_seconds(bundle_turned, curve, bundle)), 12)
                self.assertTrue(self.within_seconds(bundle_sum, curve, one, other))

    def test_bundles_of_great_functions(self):
        for p in PRIMES:
            for curve in curves_over(p)[3::4]:
                primes = first_primes(p, 12, 32)
                one = quotient_of(great_polynomial(curve, primes[:16]), great_polynomial(curve, primes[16:]))
                self.assertGreater(len(one.top()), 190)
                told = self.within_seconds(bundle_of, curve, one)
                self.assertEqual(len({repr(place[0]) for place, _ in told if place}), 32)
                self.assertTrue(self.within_seconds(poles_of, curve, one))

    def test_norms_of_the_power_400(self):
        for p in PRIMES:
            for curve in curves_over(p)[3::4]:
                one, wanted = Function(curve, [1], [], [1]), []
                near = [place for place in low_places(curve) if place[1]][::2] + [plain_place(curve, 12)]
                at = 0
                while len(one.top()) < 185 and len(one.side()) < 185:
                    q, w = near[at % len(near)]
                    part = Function(curve, reckoning.less(p, [], w), [1], [1])
                    at += 1
                    if len(reckoning.norm_top(p, curve.polynomial(), (part.top(), [1], [1]))) < 14:
                        one = product_of(one, part)
                        wanted = bundle_sum(curve, wanted, bundle_of(curve, part))
                    elif len(q) == 13:
                        one = product_of(one, Function(curve, q, [], [1]))
                        wanted = bundle_sum(curve, wanted, bundle_of(curve, Function(curve, q, [], [1])))
                self.assertEqual(self.within_seconds(bundle_of, curve, one), wanted)

    def test_a_norm_of_primes_of_the_power_12(self):
        for p in PRIMES:
            for curve in curves_over(p)[1::4]:
                q, w = plain_place(curve, 12)
                begun_there = Function(curve, reckoning.less(p, [], w), [1], [1])
                one = quotient_of(Function(curve, q, [], [1]), turned(begun_there))
                extra = reckoning.norm_top(p, curve.polynomial(), (begun_there.top(), [1], [1]))
                if len(reckoning.quotient(p, extra, q)) < 14:
                    self.assertTrue(self.within_seconds(bundle_of, curve, one))


class FormsLimitsTest(TimedTest):
    def test_forms_of_the_power_40(self):
        for p in PRIMES:
            for curve in curves_over(p)[1::2]:
                one, other = form_of_the_power_40(curve, 1), form_of_the_power_40(curve, -1)
                self.assertIn(len(one[2]), range(38, 42))
                for form in (one, other):
                    self.assertIs(self.within_seconds(is_form, curve, form), True)
                    bundle = self.within_seconds(form_bundle, curve, form)
                    self.assertEqual(self.within_seconds(form_of, curve, bundle), form)
                    self.within_seconds(composed, curve, form, form)
                    self.within_seconds(form_opposite, curve, form)
                    self.within_seconds(shares, curve, form, great_function(curve, 2))
                    found = self.within_seconds(least_form, curve, bundle)
                    self.assertIs(self.within_seconds(is_joining, curve, bundle, form_bundle(
                        curve, found[0]), found[1]), True)
                    self.within_seconds(is_joining, curve, bundle, [], great_function(curve, 3))
                    self.assertIs(self.within_seconds(is_of_function, curve, bundle), False)
                self.assertEqual(self.within_seconds(composed, curve, one, other), ([1], [1], [1], [], 0))
                bundle, opposite = form_bundle(curve, one), form_bundle(curve, other)
                self.within_seconds(joining, curve, bundle, opposite)

    def test_places_of_the_power_12(self):
        for p in PRIMES:
            for curve in curves_over(p)[1::2]:
                place, wide = plain_place(curve, 12), wide_place(curve, 12)
                for bundle in ([(place, 3)], [(wide, 3)], in_order([(place, -2), (wide, 2)])):
                    form = self.within_seconds(form_of, curve, bundle)
                    self.assertEqual(self.within_seconds(form_bundle, curve, form), bundle)
                    self.within_seconds(least_form, curve, bundle)
                    self.within_seconds(joining, curve, bundle, [((), bundle_degree(curve, bundle))])

    def test_many_places(self):
        for p in PRIMES:
            for curve in curves_over(p)[1::2]:
                bundle = in_order([(place, at % 5 - 2) for at, place in enumerate(places_to_take(curve))])
                found = self.within_seconds(least_form, curve, bundle)
                self.assertIs(self.within_seconds(
                    is_joining, curve, bundle, form_bundle(curve, found[0]), found[1]), True)


if __name__ == "__main__":
    unittest.main()
