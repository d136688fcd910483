"""Promises [37] to [39]: descents of differentials, their matrix, and the number of points. With [2]."""

import itertools
import unittest

from curveheads.curves import Curve
from curveheads.descents import descent, descent_bundle, descent_matrix, points_rest, standing
from curveheads.differentials import differential_bundle, differentials_above, is_above, without_poles
from curveheads.errors import InvalidBundle, InvalidCurve, InvalidFunction, InvalidNumber
from curveheads.functions import Function, power_of, product_of, pth_root, quotient_of, slope, sum_of
from curveheads.heads import is_bar
from curveheads.parts import parts
from curveheads.residues import residues
from tests import reckoning
from tests.bundle_samples import in_order, mixed_bundles, some_bundles, wrong_bundles
from tests.head_samples import heads_at, places_in_turn, residue_of
from tests.place_samples import branches, low_places
from tests.samples import (
    PRIMES, all_curves, assert_each_refused, assert_no_list_twice, assert_refused, curves_over, lists_within,
    mixed_functions, never_whole, plain_functions, tops, wrong_curves, wrong_functions)
from tests.space_samples import low_functions, order_of, with_degree


def times_p(one):
    return power_of(one, one.curve().prime())


def added(curve, numbers, functions):
    """The sum of functions, each times a number."""
    found = Function(curve, [], [], [1])
    for number, one in zip(numbers, functions):
        found = sum_of(found, product_of(Function(curve, [number] if number else [], [], [1]), one))
    return found


class DescentTest(unittest.TestCase):
    def test_it_is_the_last_part(self):
        for at, curve in enumerate(all_curves()):
            for one in plain_functions(curve) + mixed_functions(curve, at, 3, 4):
                told = descent(one)
                self.assertIs(type(told), Function)
                self.assertEqual(told, parts(one)[-1])

    def test_sums_and_pth_powers(self):
        for at, curve in enumerate(all_curves()):
            told = plain_functions(curve)[at % 2::2] + mixed_functions(curve, at, 2, 3)
            for one in told:
                for other in told[::2]:
                    self.assertEqual(descent(sum_of(one, other)), sum_of(descent(one), descent(other)))
                    self.assertEqual(descent(product_of(times_p(one), other)), product_of(one, descent(other)))

    def test_slopes(self):
        for at, curve in enumerate(all_curves()):
            nought = Function(curve, [], [], [1])
            for one in plain_functions(curve) + mixed_functions(curve, at, 2, 4):
                self.assertEqual(descent(slope(one)), nought)
                if one:
                    z = quotient_of(slope(one), one)
                    self.assertEqual(descent(z), z)

    def test_noughts_numbers_and_pth_powers(self):
        for curve in all_curves():
            p, nought = curve.prime(), Function(curve, [], [], [1])
            self.assertEqual(descent(nought), nought)
            for number in range(1, p):
                self.assertEqual(descent(Function(curve, [number], [], [1])), nought)
            for one in plain_functions(curve):
                self.assertEqual(descent(times_p(one)), nought)
                high = product_of(times_p(one), Function(curve, [0] * (p - 1) + [1], [], [1]))
                self.assertEqual(descent(high), one)

    def test_it_does_not_hang_on_x(self):
        # The differential is made of a function t in the place of x, and of the p-th powers of functions.
        for at, curve in enumerate(all_curves()):
            p = curve.prime()
            told = mixed_functions(curve, at, 3, 1)
            for t in [Function(curve, [], [1], [1]), *mixed_functions(curve, at + 1, 1, 1)]:
                if pth_root(t) is not None:
                    continue
                u = Function(curve, [], [], [1])
                for exponent in ({0, p - 1, p // 2}):
                    part = told[exponent % 3]
                    u = sum_of(u, product_of(times_p(part), power_of(t, exponent)))
                wanted = product_of(told[(p - 1) % 3], slope(t))
                self.assertEqual(descent(product_of(u, slope(t))), wanted)

    def test_residues_stay(self):
        many = 0
        for at, curve in enumerate(all_curves()):
            for one in low_functions(curve, at, 4) + plain_functions(curve):
                low = descent(one)
                told = residues(curve, one)
                self.assertEqual(residues(curve, low), told)
                many += len(told)
                for place in low_places(curve)[:1] + branches(curve)[:1]:
                    if reckoning.degree(place) < 3:
                        self.assertEqual(residue_of(curve, low, place), residue_of(curve, one, place))
        self.assertGreater(many, 200)


class DescentBundleTest(unittest.TestCase):
    def test_numbers(self):
        for curve in all_curves():
            p = curve.prime()
            for bundle in some_bundles(curve) + mixed_bundles(curve, 1, 3, 20):
                wanted = []
                for place, number in bundle:
                    low = max(one for one in range(-30, 31) if one * p <= number)
                    wanted.append((place, low))
                self.assertEqual(descent_bundle(curve, bundle), in_order(wanted))

    def test_numbers_below_0_and_those_that_p_divides(self):
        for curve in all_curves():
            p = curve.prime()
            for number, wanted in [(1, 0), (p - 1, 0), (p, 1), (p + 1, 1), (2 * p, 2), (-1, -1), (-p + 1, -1), (-p, -1),
                                   (-p - 1, -2), (-2 * p, -2), (-2 * p - 1, -3)]:
                for place in [()] + low_places(curve)[:1] + branches(curve)[:1]:
                    self.assertEqual(descent_bundle(curve, [(place, number)]), [(place, wanted)] * (wanted != 0))
            self.assertEqual(descent_bundle(curve, []), [])

    def test_descents_are_above_it(self):
        many = 0
        for at, curve in enumerate(all_curves()):
            for bundle in [with_degree(one, -1 - at % 4) for one in mixed_bundles(curve, at, 3, 5)]:
                low = descent_bundle(curve, bundle)
                for one in differentials_above(curve, bundle)[:3]:
                    self.assertIs(is_above(curve, descent(one), low), True)
                    many += bool(descent(one))
        self.assertGreater(many, 100)

    def test_orders_at_each_place(self):
        for at, curve in enumerate(all_curves()):
            for one in low_functions(curve, at, 3):
                low = descent(one)
                bundle = differential_bundle(curve, one)
                self.assertIs(is_above(curve, low, descent_bundle(curve, bundle)), True)
                for place, number in bundle:
                    if low:
                        self.assertGreaterEqual(order_of(curve, low, place), number // curve.prime())

    def test_bars(self):
        # A differential above a bundle taken p times bars p-th powers just if its descent bars the heads themselves.
        many = [0, 0]
        for at, curve in enumerate(curve for curve in all_curves() if curve.prime() < 8):
            p = curve.prime()
            for by in range(3):
                places = [place for place in places_in_turn(curve, at + by, 4) if reckoning.degree(place) < 3]
                heads = heads_at(curve, places[:2], at + by, 1)
                bundle = with_degree([], -1)
                high = in_order([(place, p * number) for place, number in bundle])
                powers = [(place, times_p(one)) for place, one in heads]
                for one in differentials_above(curve, high)[:3]:
                    bars = is_bar(curve, high, powers, one)
                    self.assertIs(bars, is_bar(curve, bundle, heads, descent(one)))
                    many[bars] += 1
        self.assertGreater(min(many), 15)


class MatrixTest(unittest.TestCase):
    def test_descents_of_differentials_without_poles(self):
        for curve in all_curves():
            told = descent_matrix(curve)
            self.assertIs(type(told), list)
            self.assertEqual([len(row) for row in told], [curve.genus()] * curve.genus())
            for row, one in zip(told, without_poles(curve)):
                self.assertIs(type(row), list)
                self.assertEqual(descent(one), added(curve, row, without_poles(curve)))

    def test_numbers_of_the_power_of_f(self):
        for curve in all_curves():
            p, told = curve.prime(), descent_matrix(curve)
            numbers = reckoning.taken(p, curve.polynomial(), (p - 1) // 2) + [0] * p
            for j, i in itertools.product(range(curve.genus()), repeat=2):
                self.assertEqual(told[j][i], numbers[p * (i + 1) - j - 1])

    def test_standing(self):
        # The differentials that are left after as many descents as the genus tells are counted one by one.
        found = set()
        for curve in all_curves():
            p, g, table = curve.prime(), curve.genus(), descent_matrix(curve)
            left = {tuple(one) for one in itertools.product(range(p), repeat=g)}
            for _ in range(g):
                left = {tuple(sum(number * row[at] for number, row in zip(one, table)) % p for at in range(g))
                        for one in left}
            self.assertEqual(p ** standing(curve), len(left))
            found.add((g, standing(curve)))
        self.assertTrue({(0, 0), (1, 0), (1, 1), (2, 0), (2, 2), (3, 0), (3, 1), (3, 2), (3, 3)} <= found)

    def test_a_matrix_that_dies_out_late(self):
        two = Curve(3, [1, 0, 0, 0, 0, 1])
        self.assertEqual((descent_matrix(two), standing(two)), ([[0, 1], [0, 0]], 0))

    def test_genus_0(self):
        for curve in [one for p in PRIMES for one in curves_over(p)[:2]]:
            self.assertEqual((descent_matrix(curve), standing(curve)), ([], 0))


def points_by_trying(curve, count):
    """How many points there are over the field with p ** count numbers, by the places of low degrees."""
    p, f = curve.prime(), curve.polynomial()
    return sum(part * len(reckoning.places_by_degree(p, f, part)) for part in range(1, count + 1) if count % part == 0)


class PointsTest(unittest.TestCase):
    def test_points_by_trying(self):
        for curve in all_curves():
            p = curve.prime()
            for count in range(1, {3: 5, 5: 4, 7: 3, 11: 3, 13: 3}[p]):
                self.assertEqual(points_rest(curve, count), points_by_trying(curve, count) % p)

    def test_points_over_the_prime_field(self):
        for curve in all_curves():
            p, f = curve.prime(), curve.polynomial()
            values = [sum(number * at ** power for power, number in enumerate(f)) % p for at in range(p)]
            roots = [sum(root * root % p == value for root in range(p)) for value in values]
            self.assertEqual(points_rest(curve, 1), (1 + sum(roots)) % p)

    def test_the_matrix_taken_often(self):
        for curve in all_curves():
            p, g, table = curve.prime(), curve.genus(), descent_matrix(curve)
            power = [[int(i == j) for i in range(g)] for j in range(g)]
            for count in range(1, 30):
                power = [[sum(row[k] * table[k][i] for k in range(g)) % p for i in range(g)] for row in power]
                self.assertEqual(points_rest(curve, count), (1 - sum(power[k][k] for k in range(g))) % p)

    def test_counts_of_30_figures(self):
        # The powers of the matrix come round after a while: from then on counts may be taken by the length of the turn.
        for curve in all_curves():
            p, g, table = curve.prime(), curve.genus(), descent_matrix(curve)
            power, seen, traces = [[int(i == j) for i in range(g)] for j in range(g)], {}, []
            while repr(power) not in seen:
                seen[repr(power)] = len(traces)
                traces.append(sum(power[k][k] for k in range(g)))
                power = [[sum(row[k] * table[k][i] for k in range(g)) % p for i in range(g)] for row in power]
            start = seen[repr(power)]
            for count in (10 ** 30 - 1, 10 ** 29, 10 ** 29 + 12345, 2 ** 90 + 1):
                at = start + (count - start) % (len(traces) - start)
                self.assertEqual(points_rest(curve, count), (1 - traces[at]) % p)

    def test_genus_0(self):
        for curve in [one for p in PRIMES for one in curves_over(p)[:2]]:
            for count in (1, 2, 17, 10 ** 30 - 1):
                self.assertEqual(points_rest(curve, count), 1)


class ArgumentsTest(unittest.TestCase):
    def test_arguments_by_name(self):
        five = Curve(5, [1, 1, 0, 1])
        self.assertEqual(descent(one=Function(five, [1], [], [0, 1])), Function(five, [1], [], [0, 1]))
        self.assertEqual(descent_bundle(bundle=[((), 7)], curve=five), [((), 1)])
        self.assertEqual((descent_matrix(curve=five), standing(curve=five)), ([[2]], 1))
        self.assertEqual(points_rest(count=1, curve=five), 4)

    def test_wrong_arguments(self):
        counts = never_whole() + [0, -1, -10 ** 29, 10 ** 30, 10 ** 30 + 1, 10 ** 40]
        for curve in [one for p in PRIMES for one in curves_over(p)[p % 8::8]]:
            curves, good = (InvalidCurve, wrong_curves()), {"curve": curve}
            assert_each_refused(self, descent, {"one": Function(curve, [1], [], [1])}, {
                "one": (InvalidFunction, wrong_functions())})
            assert_each_refused(self, descent_bundle, {**good, "bundle": []}, {
                "curve": curves, "bundle": (InvalidBundle, wrong_bundles(curve))})
            for call in (descent_matrix, standing):
                assert_each_refused(self, call, good, {"curve": curves})
            assert_each_refused(self, points_rest, {**good, "count": 1}, {
                "curve": curves, "count": (InvalidNumber, counts)})

    def test_bounds_of_counts(self):
        for curve in all_curves()[::3]:
            for count in (1, 10 ** 30 - 1):
                self.assertIn(points_rest(curve, count), range(curve.prime()))
            for count in (0, 10 ** 30):
                assert_refused(self, InvalidNumber, count, points_rest, curve, count)

    def test_arguments_stay_and_told_lists_belong_to_the_caller(self):
        for at, curve in enumerate(all_curves()[::2]):
            bundle = [(place, 7 * number) for place, number in some_bundles(curve)[-1 - at % 4]]
            for call, arguments in ((descent_bundle, [bundle]), (descent_matrix, [])):
                kept = repr(bundle)
                told = call(curve, *arguments)
                first = repr(told)
                assert_no_list_twice(self, [bundle, told])
                for part in lists_within(told):
                    part.append(1)
                self.assertEqual(repr(call(curve, *arguments)), first)
                self.assertEqual(repr(bundle), kept)
            one = mixed_functions(curve, at, 1, 3)[0]
            kept = repr(tops(one))
            first = descent(one)
            for part in tops(first):
                part.append(1)
            self.assertEqual(descent(one), first)
            self.assertEqual(repr(tops(one)), kept)

    def test_a_changed_list_is_read_anew(self):
        for curve in all_curves()[::4]:
            bundle = [((), 30)]
            self.assertEqual(descent_bundle(curve, bundle), [((), 30 // curve.prime())])
            bundle[0] = ((), -1)
            self.assertEqual(descent_bundle(curve, bundle), [((), -1)])
            bundle.clear()
            self.assertEqual(descent_bundle(curve, bundle), [])


if __name__ == "__main__":
    unittest.main()
