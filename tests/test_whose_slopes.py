"""Promises [40] and [41]: which functions are slopes, and which are slopes divided by their function. With [2]."""

import itertools
import unittest

from curveheads.bundles import is_bundle
from curveheads.curves import Curve
from curveheads.descents import descent, descent_bundle
from curveheads.differentials import differential_bundle, differentials_above, is_above
from curveheads.errors import InvalidBundle, InvalidCurve, InvalidFunction
from curveheads.functions import Function, less_of, power_of, product_of, pth_root, quotient_of, slope, sum_of
from curveheads.parts import parts
from curveheads.places import places_of
from curveheads.series import local_sign, series
from curveheads.slopes import divided_slopes_in, slopes_in, whose_divided_slope, whose_slope
from tests import reckoning
from tests.bundle_samples import in_order, mixed_bundles, some_bundles, wrong_bundles
from tests.independence import rank_of_functions
from tests.place_samples import branches, low_places
from tests.samples import (
    PRIMES, all_curves, assert_each_refused, curves_over, mixed_functions, plain_functions, tops, trimmed, wrong_curves,
    wrong_functions)
from tests.space_samples import degree_of, low_functions, with_degree


def times_p(one):
    return power_of(one, one.curve().prime())


def nought_on(curve):
    return Function(curve, [], [], [1])


def added(curve, numbers, functions):
    found = nought_on(curve)
    for number, one in zip(numbers, functions):
        found = sum_of(found, product_of(Function(curve, trimmed([number]), [], [1]), one))
    return found


class WhoseSlopeTest(unittest.TestCase):
    def test_slopes(self):
        for at, curve in enumerate(all_curves()):
            p, f = curve.prime(), curve.polynomial()
            for one in plain_functions(curve) + mixed_functions(curve, at, 4, 5):
                told = whose_slope(slope(one))
                self.assertIs(type(told), Function)
                self.assertEqual(told.curve(), curve)
                self.assertFalse(parts(told)[0])
                self.assertEqual(told, less_of(one, times_p(parts(one)[0])))
                self.assertEqual(reckoning.function_slope(p, f, tops(told)), tops(slope(one)))

    def test_whether_there_is_one(self):
        many = [0, 0]
        for at, curve in enumerate(all_curves()):
            told = plain_functions(curve) + mixed_functions(curve, at, 3, 3)
            told += [slope(one) for one in told[3:6]] + [quotient_of(slope(one), one) for one in told[1:4] if one]
            for z in told:
                found = whose_slope(z)
                self.assertIs(found is None, bool(descent(z)))
                many[found is None] += 1
                if found is not None:
                    self.assertEqual(slope(found), z)
        self.assertGreater(min(many), 150)

    def test_they_differ_by_pth_powers(self):
        for at, curve in enumerate(all_curves()):
            one, other = mixed_functions(curve, at, 2, 2)
            told = whose_slope(slope(one))
            self.assertEqual(whose_slope(slope(sum_of(one, times_p(other)))), told)
            self.assertIsNotNone(pth_root(less_of(told, one)))

    def test_nought_and_numbers(self):
        for curve in all_curves():
            p = curve.prime()
            self.assertEqual(whose_slope(nought_on(curve)), nought_on(curve))
            for number in range(1, p):
                self.assertEqual(whose_slope(Function(curve, [number], [], [1])), Function(curve, [0, number], [], [1]))
            self.assertIsNone(whose_slope(Function(curve, [1], [], [0, 1])))
            self.assertIsNone(whose_slope(Function(curve, [0] * (p - 1) + [1], [], [1])))
            self.assertEqual(whose_slope(Function(curve, [0] * p + [1], [], [1])), Function(
                curve, [0] * (p + 1) + [1], [], [1]))

    def test_one_place_shows_it(self):
        many = [0, 0]
        for at, curve in enumerate(curve for curve in all_curves() if curve.prime() < 8):
            p, g = curve.prime(), curve.genus()
            told = [one for one in low_functions(curve, at, 3) + plain_functions(curve) if one]
            told += [one for one in [slope(one) for one in told] if one]
            for z in told:
                if not is_bundle(curve, differential_bundle(curve, z)):
                    continue
                below = descent_bundle(curve, differential_bundle(curve, z))
                for place in places_of(curve, 1)[:2]:
                    n = 2 * g - 2 - degree_of([row for row in below if row[0] != place])
                    one = quotient_of(z, slope(local_sign(curve, place)))
                    order, values = series(curve, one, place, 24)
                    wanted = [p * j + p - 1 for j in range(-20, n + 1) if p * j + p - 1 >= order]
                    if wanted and wanted[-1] >= order + 24:
                        continue
                    is_slope = not any(values[low - order] for low in wanted)
                    self.assertIs(is_slope, whose_slope(z) is not None)
                    many[is_slope] += 1
        self.assertGreater(min(many), 30)


class WhoseDividedSlopeTest(unittest.TestCase):
    def assert_divided(self, z, told):
        self.assertIs(type(told), Function)
        self.assertTrue(told)
        self.assertEqual(slope(told), product_of(z, told))

    def test_divided_slopes(self):
        for at, curve in enumerate(all_curves()):
            for one in plain_functions(curve) + mixed_functions(curve, at, 3, 2):
                if not one:
                    continue
                z = quotient_of(slope(one), one)
                told = whose_divided_slope(z)
                self.assert_divided(z, told)
                # All others are it times p-th powers.
                self.assertIsNotNone(pth_root(quotient_of(told, one)))

    def test_powers_of_x_and_of_y(self):
        # Here the steps from 1 end early, or not until the last one.
        for curve in all_curves():
            p = curve.prime()
            for base in [Function(curve, *told) for told in (([0, 1], [], [1]), ([], [1], [1]), ([1], [1], [1]))]:
                for exponent in range(p):
                    one = power_of(base, exponent)
                    z = quotient_of(slope(one), one)
                    self.assert_divided(z, whose_divided_slope(z))

    def test_whether_there_is_one(self):
        many = [0, 0]
        for at, curve in enumerate(all_curves()):
            told = plain_functions(curve) + mixed_functions(curve, at, 2, 2)
            told += [quotient_of(slope(one), one) for one in told if one]
            told += [product_of(one, Function(curve, [2], [], [1])) for one in told[-3:]]
            told += [sum_of(*told[-5:-3])]
            for z in told:
                found = whose_divided_slope(z)
                self.assertIs(found is not None, descent(z) == z)
                many[found is not None] += 1
                if found is not None:
                    self.assert_divided(z, found)
        self.assertGreater(min(many), 200)

    def test_nought_and_numbers(self):
        for curve in all_curves():
            found = whose_divided_slope(nought_on(curve))
            self.assertTrue(found)
            self.assertIsNotNone(pth_root(found))
            for number in range(1, curve.prime()):
                self.assertIsNone(whose_divided_slope(Function(curve, [number], [], [1])))
                z = Function(curve, [number], [], [0, 1])
                self.assert_divided(z, whose_divided_slope(z))

    def test_differentials_without_poles(self):
        many = 0
        for curve in all_curves():
            for z in divided_slopes_in(curve, []):
                self.assert_divided(z, whose_divided_slope(z))
                many += 1
        self.assertGreater(many, 1)


class SlopesInTest(unittest.TestCase):
    def samples(self, curve, seed):
        p, g = curve.prime(), curve.genus()
        place, branch = low_places(curve)[0], branches(curve)[0]
        found = [[], [((), -1), (branch, -1)], in_order([((), -1), (place, -1)]), [((), -p)], [(branch, -2)]]
        found += [with_degree(bundle, g - 2 - at % 4) for at, bundle in enumerate(
            some_bundles(curve)[seed % 3::3] + mixed_bundles(curve, seed, 2, 2))]
        return [bundle for bundle in found if len(differentials_above(curve, bundle)) < 13]

    def assert_inside(self, curve, bundle, told, able):
        self.assertIs(type(told), list)
        self.assertEqual(rank_of_functions(curve.prime(), told), len(told))
        for z in told:
            self.assertEqual(z.curve(), curve)
            self.assertIs(is_above(curve, z, bundle), True)
        self.assertLessEqual(len(told), len(able))

    def test_as_many_as_the_descents_leave(self):
        many = [0, 0]
        for at, curve in enumerate(all_curves()):
            p = curve.prime()
            for bundle in self.samples(curve, at):
                able = differentials_above(curve, bundle)
                told = slopes_in(curve, bundle)
                self.assert_inside(curve, bundle, told, able)
                self.assertTrue(all(descent(z) == nought_on(curve) for z in told))
                self.assertEqual(len(told), len(able) - rank_of_functions(p, [descent(z) for z in able]))
                many[0] += len(told)
                told = divided_slopes_in(curve, bundle)
                self.assert_inside(curve, bundle, told, able)
                self.assertTrue(all(descent(z) == z for z in told))
                missing = [less_of(descent(z), z) for z in able]
                self.assertEqual(len(told), len(able) - rank_of_functions(p, missing))
                many[1] += len(told)
        self.assertGreater(min(many), 100)

    def test_each_one_is_tried(self):
        for at, curve in enumerate(curves_over(3) + curves_over(5)[::3]):
            p = curve.prime()
            for bundle in self.samples(curve, at):
                able = differentials_above(curve, bundle)
                if p ** len(able) > 200:
                    continue
                every = [added(curve, numbers, able) for numbers in itertools.product(range(p), repeat=len(able))]
                found = sum(whose_slope(z) is not None for z in every)
                self.assertEqual(found, p ** len(slopes_in(curve, bundle)))
                found = sum(whose_divided_slope(z) is not None for z in every)
                self.assertEqual(found, p ** len(divided_slopes_in(curve, bundle)))

    def test_sums(self):
        for at, curve in enumerate(all_curves()[::2]):
            p = curve.prime()
            for bundle in self.samples(curve, at)[::2]:
                for call, back in ((slopes_in, whose_slope), (divided_slopes_in, whose_divided_slope)):
                    told = call(curve, bundle)
                    z = added(curve, [1 + by % (p - 1) for by in range(len(told))], told)
                    self.assertIsNotNone(back(z))

    def test_no_differentials(self):
        for curve in all_curves():
            for bundle in ([((), 2 * curve.genus() - 1)], [((), 1), (low_places(curve)[0], 30)]):
                self.assertEqual((slopes_in(curve, bundle), divided_slopes_in(curve, bundle)), ([], []))
            if curve.genus() == 0:
                self.assertEqual((slopes_in(curve, []), divided_slopes_in(curve, [])), ([], []))

    def test_twelve_differentials(self):
        found = 0
        for curve in all_curves():
            far = -13 + curve.genus()
            able = differentials_above(curve, [((), far)])
            self.assertEqual(len(able), 12)
            told = slopes_in(curve, [((), far)])
            self.assertEqual(len(told), 12 - rank_of_functions(curve.prime(), [descent(z) for z in able]))
            # With its poles at one place alone a slope that is divided by its function has no pole.
            self.assertEqual(len(divided_slopes_in(curve, [((), far)])), len(divided_slopes_in(curve, [])))
            found += len(told)
        self.assertGreater(found, 200)


class ArgumentsTest(unittest.TestCase):
    def test_arguments_by_name(self):
        bent = Curve(3, [0, 2, 0, 1])
        back, low = Function(bent, [], [1], [0, 2, 0, 1]), Function(bent, [1], [], [0, 1])
        self.assertEqual(slope(whose_slope(one=back)), back)
        self.assertTrue(whose_divided_slope(one=low))
        self.assertEqual(len(slopes_in(bundle=[], curve=bent)), 1)
        self.assertEqual(divided_slopes_in(bundle=[], curve=bent), [])

    def test_wrong_arguments(self):
        for curve in [one for p in PRIMES for one in curves_over(p)[p % 8::8]]:
            for call in (whose_slope, whose_divided_slope):
                assert_each_refused(self, call, {"one": Function(curve, [1], [], [1])}, {
                    "one": (InvalidFunction, wrong_functions())})
            for call in (slopes_in, divided_slopes_in):
                assert_each_refused(self, call, {"curve": curve, "bundle": []}, {
                    "curve": (InvalidCurve, wrong_curves()), "bundle": (InvalidBundle, wrong_bundles(curve))})

    def test_arguments_stay_and_told_lists_belong_to_the_caller(self):
        for at, curve in enumerate(all_curves()[::3]):
            one = mixed_functions(curve, at, 1, 3)[0]
            kept, z = repr(tops(one)), slope(one)
            for call, told in ((whose_slope, z), (whose_divided_slope, z), (whose_slope, one)):
                self.assertEqual(call(told), call(told))
            for part in tops(whose_slope(z)):
                part.append(1)
            self.assertEqual(slope(whose_slope(z)), z)
            self.assertEqual(repr(tops(one)), kept)
            bundle = [((), -4), *[(place, 1) for place in low_places(curve)[:1]]]
            kept = repr(bundle)
            for call in (slopes_in, divided_slopes_in):
                found = call(curve, bundle)
                first = list(found)
                found.append(None)
                self.assertEqual(call(curve, bundle), first)
                self.assertEqual(repr(bundle), kept)

    def test_a_changed_list_is_read_anew(self):
        for curve in all_curves()[::4]:
            bundle = [((), -6)]
            many = len(slopes_in(curve, bundle))
            bundle[0] = ((), 2 * curve.genus() - 1) if curve.genus() else ((), -1)
            self.assertEqual(slopes_in(curve, bundle), [])
            bundle[0] = ((), -6)
            self.assertEqual(len(slopes_in(curve, bundle)), many)
            self.assertGreater(many, 0)


if __name__ == "__main__":
    unittest.main()
