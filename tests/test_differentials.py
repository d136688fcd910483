"""Promises [28] and [29]: differentials, their orders, and those above a bundle. With [2]."""

import itertools
import unittest

from curveheads.bundles import bundle_degree, bundle_of, is_bundle
from curveheads.curves import Curve
from curveheads.differentials import (
    differential_bundle, differential_order, differentials_above, is_above, parts_without_poles, without_poles)
from curveheads.errors import InvalidBundle, InvalidCurve, InvalidFunction, InvalidPlace
from curveheads.functions import Function, product_of, quotient_of, slope, sum_of
from curveheads.series import local_sign
from curveheads.spaces import dual, space_size
from tests import reckoning
from tests.bundle_samples import wrong_bundles
from tests.place_samples import branches, low_places, plain_place, some_places, wide_place, wrong_places
from tests.samples import (
    PRIMES, Stream, all_curves, assert_each_refused, assert_no_list_twice, curves_over, lists_within,
    mixed_functions, plain_functions, tops, trimmed, wrong_curves)
from tests.space_samples import (
    degree_of, functions_of_other_curves, is_above_by_orders, low_functions, order_of, samples)


class OrdersTest(unittest.TestCase):
    def test_functions_and_places(self):
        for curve in all_curves():
            for one in plain_functions(curve) + mixed_functions(curve, 1, 2, 3):
                for place in some_places(curve)[curve.genus() % 2::2] + branches(curve):
                    told = differential_order(curve, one, place)
                    self.assertEqual(told, order_of(curve, one, place) if one else None)

    def test_slopes_of_local_signs(self):
        # The order of dt is 0 for the local sign t of a place: so that of dx is less by the order of the slope of t.
        for curve in all_curves():
            for place in some_places(curve)[:-2]:
                t = local_sign(curve, place)
                self.assertEqual(differential_order(curve, slope(t), place), 0)

    def test_bundles_of_differentials(self):
        for curve in all_curves():
            for one in low_functions(curve, 2, 6):
                told = differential_bundle(curve, one)
                self.assertIs(is_bundle(curve, told), True)
                self.assertEqual(bundle_degree(curve, told), 2 * curve.genus() - 2)
                numbers = {repr(place): number for place, number in told}
                places = [place for place, _ in told + bundle_of(curve, one)] + [(), *branches(curve)]
                for place in places + low_places(curve, 1):
                    self.assertEqual(numbers.get(repr(place), 0), order_of(curve, one, place))

    def test_dx_and_dx_over_y(self):
        for curve in all_curves():
            f, g = curve.polynomial(), curve.genus()
            told = differential_bundle(curve, Function(curve, [1], [], [1]))
            self.assertEqual(told[0], ((), -3))
            self.assertTrue(all(number == 1 and place[1] == [] for place, number in told[1:]))
            self.assertEqual(degree_of(told[1:]), len(f) - 1)
            told = differential_bundle(curve, Function(curve, [], [1], f))
            self.assertEqual(told, [((), 2 * g - 2)] * (g != 1))

    def test_primes_of_the_power_12(self):
        for curve in [one for p in PRIMES for one in curves_over(p)[1::4]]:
            (q, w), wide = plain_place(curve, 12), wide_place(curve, 12)
            one = Function(curve, [1], [], q)
            self.assertEqual(differential_order(curve, one, (q, w)), -1)
            told = differential_bundle(curve, Function(curve, [], wide[0], curve.polynomial()))
            self.assertEqual(bundle_degree(curve, told), 2 * curve.genus() - 2)
            self.assertIn((wide, 1), told)


class AboveTest(unittest.TestCase):
    def test_as_many_as_the_dual_tells(self):
        for curve in all_curves():
            for bundle in samples(curve, 3):
                told = differentials_above(curve, bundle)
                self.assertIs(type(told), list)
                self.assertEqual(len(told), space_size(curve, dual(curve, bundle)))
                self.assertEqual(len(told) - space_size(curve, bundle), curve.genus() - 1 - degree_of(bundle))
                for one in told[:2] + told[-1:]:
                    self.assertIs(one.curve() == curve and bool(one), True)
                    self.assertTrue(is_above_by_orders(curve, one, bundle))

    def test_they_are_independent(self):
        for curve in curves_over(3):
            for bundle in samples(curve, 4, 1):
                told = differentials_above(curve, bundle)
                if not 0 < len(told) < 5:
                    continue
                found = []
                for numbers in itertools.product(range(3), repeat=len(told)):
                    added = Function(curve, [], [], [1])
                    for number, one in zip(numbers, told):
                        added = sum_of(added, product_of(Function(curve, trimmed([number]), [], [1]), one))
                    self.assertIs(is_above(curve, added, bundle), True)
                    found.append(repr(tops(added)))
                self.assertEqual(len(set(found)), 3 ** len(told))

    def test_all_differentials_above_a_bundle(self):
        # Differentials (a + b * y) / (f * q) are tried by their orders.
        for curve in curves_over(3)[1:5]:
            f, q = curve.polynomial(), low_places(curve, 1)[0][0]
            over = reckoning.places_by_trying(3, f, q)
            for bundle in [[], [((), -2)], [(over[0], -1)], [((), -1), (over[-1], -1)], [((), 1), (over[0], -1)]]:
                self.assert_all_above(curve, bundle, reckoning.times(3, f, q))

    def assert_all_above(self, curve, bundle, bottom):
        # At branches an order of -1 is too low already, so a is a multiple of f. With a far order of at most 2 for the
        # function its cofactor has a power of at most 1, and b a lower power than the bottom by more than the genus.
        found = 0
        for straight in itertools.product(range(3), repeat=2):
            top = reckoning.times(3, curve.polynomial(), trimmed(straight))
            for side in itertools.product(range(3), repeat=len(bottom) - 1 - curve.genus()):
                one = Function(curve, top, trimmed(side), bottom)
                inside = is_above_by_orders(curve, one, bundle)
                self.assertIs(is_above(curve, one, bundle), inside)
                found += inside
        self.assertEqual(found, 3 ** len(differentials_above(curve, bundle)))

    def test_whether_they_are_above(self):
        many = [0, 0]
        for curve in all_curves():
            for at, bundle in enumerate(samples(curve, 5, 1)[::2]):
                told = differentials_above(curve, bundle)[:2]
                x = Function(curve, [0, 1], [], [1])
                others = [product_of(one, x) for one in told[:1]] + [quotient_of(one, x) for one in told[:1]]
                for one in plain_functions(curve)[at % 3::3] + mixed_functions(curve, at, 1, 2) + told + others:
                    above = is_above(curve, one, bundle)
                    self.assertIs(above, is_above_by_orders(curve, one, bundle))
                    many[above] += 1
        self.assertGreater(min(many), 300)

    def test_a_differential_is_above_its_bundle(self):
        for curve in all_curves():
            for one in low_functions(curve, 6, 2):
                bundle = differential_bundle(curve, one)
                self.assertIs(is_above(curve, one, bundle), True)
                self.assertEqual(len(differentials_above(curve, bundle)), 1)
                more = [((), 1)] if not bundle or bundle[0][0] else [((), bundle[0][1] + 1)] * (bundle[0][1] != -1)
                rest = bundle[1:] if bundle and not bundle[0][0] else bundle
                self.assertIs(is_above(curve, one, more + rest), False)

    def test_nought(self):
        for curve in all_curves()[::3]:
            nought = Function(curve, [], [], [1])
            for bundle in samples(curve, 7, 1)[::3]:
                self.assertIs(is_above(curve, nought, bundle), True)
            for place in some_places(curve):
                self.assertIsNone(differential_order(curve, nought, place))
            self.assertEqual(parts_without_poles(curve, nought), [0] * curve.genus())


class WithoutPolesTest(unittest.TestCase):
    def test_the_list(self):
        for curve in all_curves():
            f, told = curve.polynomial(), without_poles(curve)
            self.assertEqual(told, [Function(curve, [], [0] * power + [1], f) for power in range(curve.genus())])
            self.assertEqual(len(told), len(differentials_above(curve, [])))
            for one in told:
                self.assertIs(is_above(curve, one, []), True)
                self.assertTrue(all(number > 0 for _, number in differential_bundle(curve, one)))

    def test_sums(self):
        for curve in all_curves():
            p, stream = curve.prime(), Stream(8)
            for _ in range(6):
                numbers = [stream.below(p) for _ in range(curve.genus())]
                one = Function(curve, [], trimmed(numbers), curve.polynomial())
                self.assertEqual(parts_without_poles(curve, one), numbers)
            for one in without_poles(curve):
                told = parts_without_poles(curve, one)
                self.assertEqual(sum(told), 1)
                self.assertEqual(without_poles(curve)[told.index(1)], one)

    def test_differentials_with_poles(self):
        many = [0, 0]
        for curve in all_curves():
            f, g = curve.polynomial(), curve.genus()
            others = [Function(curve, [], [0] * g + [1], f), Function(curve, [1], [1], f),
                      Function(curve, [], [1], reckoning.times(curve.prime(), f, [0, 1])), Function(curve, [1], [], f)]
            for one in plain_functions(curve) + mixed_functions(curve, 9, 3, 2) + others + without_poles(curve):
                told = parts_without_poles(curve, one)
                self.assertIs(told is not None, is_above_by_orders(curve, one, []))
                many[told is not None] += 1
        self.assertGreater(min(many), 80)

    def test_genus_0(self):
        for curve in [one for p in PRIMES for one in curves_over(p)[:2]]:
            self.assertEqual(without_poles(curve), [])
            self.assertEqual(parts_without_poles(curve, Function(curve, [], [], [1])), [])
            self.assertIsNone(parts_without_poles(curve, Function(curve, [1], [], [1])))


class ArgumentsTest(unittest.TestCase):
    def test_arguments_by_name(self):
        five = Curve(5, [1, 1, 0, 1])
        over_y = Function(five, [], [1], [1, 1, 0, 1])
        self.assertEqual(differential_order(place=(), z=over_y, curve=five), 0)
        self.assertEqual(differential_bundle(z=over_y, curve=five), [])
        self.assertEqual(len(differentials_above(bundle=[((), -2)], curve=five)), 2)
        self.assertIs(is_above(bundle=[], z=over_y, curve=five), True)
        self.assertEqual(without_poles(curve=five), [over_y])
        self.assertEqual(parts_without_poles(z=over_y, curve=five), [1])

    def test_wrong_arguments(self):
        for curve in [one for p in PRIMES for one in curves_over(p)[p % 8::8]]:
            curves, functions = (InvalidCurve, wrong_curves()), functions_of_other_curves(curve)
            bundles = (InvalidBundle, wrong_bundles(curve))
            good = {"curve": curve, "z": Function(curve, [1], [], [1])}
            wrong = {"curve": curves, "z": (InvalidFunction, functions)}
            nought = Function(curve, [], [], [1])
            assert_each_refused(self, parts_without_poles, good, wrong)
            assert_each_refused(self, differential_bundle, good, {
                "curve": curves, "z": (InvalidFunction, functions + [nought])})
            for one in (good["z"], nought):
                assert_each_refused(self, differential_order, {"curve": curve, "z": one, "place": ()},
                                    {**wrong, "place": (InvalidPlace, wrong_places(curve)[::2])})
                assert_each_refused(self, is_above, {"curve": curve, "z": one, "bundle": [((), 1)]},
                                    {**wrong, "bundle": bundles})
            assert_each_refused(self, differentials_above, {"curve": curve, "bundle": []},
                                {"curve": curves, "bundle": bundles})
            assert_each_refused(self, without_poles, {"curve": curve}, {"curve": curves})

    def test_arguments_stay_and_told_lists_belong_to_the_caller(self):
        for curve in [one for p in PRIMES for one in curves_over(p)[::3]]:
            for one in low_functions(curve, 10, 1):
                for call in (differential_bundle, parts_without_poles):
                    kept = repr(tops(one))
                    told = call(curve, one)
                    first = repr(told)
                    assert_no_list_twice(self, told)
                    for part in lists_within(told):
                        part.append(1)
                    self.assertEqual(repr(call(curve, one)), first)
                    self.assertEqual(repr(tops(one)), kept)
            for bundle in samples(curve, 11, 1)[::4]:
                kept = repr(bundle)
                told = differentials_above(curve, bundle)
                first = list(told)
                told.append(None)
                self.assertEqual(differentials_above(curve, bundle), first)
                without_poles(curve).append(None)
                self.assertEqual(len(without_poles(curve)), curve.genus())
                self.assertEqual(repr(bundle), kept)

    def test_a_changed_list_is_read_anew(self):
        for curve in all_curves()[::4]:
            bundle, one = [((), -3)], Function(curve, [1], [], [1])
            self.assertIs(is_above(curve, one, bundle), True)
            bundle[0] = ((), -2)
            self.assertIs(is_above(curve, one, bundle), False)
            self.assertEqual(len(differentials_above(curve, bundle)), curve.genus() + 1)
            bundle.clear()
            self.assertEqual(len(differentials_above(curve, bundle)), curve.genus())


if __name__ == "__main__":
    unittest.main()
