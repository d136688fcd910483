"""Promises [11] and [12]: far orders, leading numbers, slopes and p-th roots. With [2] for all of these."""

import unittest

from curveheads.curves import Curve
from curveheads.errors import InvalidFunction
from curveheads.functions import (
    Function, far_order, lead, less_of, norm, power_of, product_of, pth_root, quotient_of, slope, sum_of)
from tests import reckoning
from tests.samples import (
    PRIMES, Stream, all_curves, assert_each_refused, assert_refused, curves_over, mixed_functions, plain_functions,
    product, tops, wrong_functions)


def samples(curve, seed, many=6, most=4):
    return plain_functions(curve) + mixed_functions(curve, seed, many, most)


def times_p(one):
    """A function taken p times by itself."""
    return power_of(one, one.curve().prime())


class FarOrderTest(unittest.TestCase):
    def test_far_orders_and_leading_numbers(self):
        for curve in all_curves():
            power = len(curve.polynomial()) - 1
            for one in samples(curve, 1, 12, 6):
                if not one:
                    continue
                top, side, bottom = tops(one)
                # Nought is told here by a power far below all others.
                without, with_y = 2 * (len(top) - 1 if top else -99), 2 * (len(side) - 1 if side else -99) + power
                self.assertEqual(far_order(one), max(without, with_y) - 2 * (len(bottom) - 1))
                self.assertIs(type(far_order(one)), int)
                self.assertEqual(lead(one), (top if without > with_y else side)[-1])
                self.assertIs(type(lead(one)), int)

    def test_x_y_and_numbers(self):
        for curve in all_curves():
            p, power = curve.prime(), len(curve.polynomial()) - 1
            self.assertEqual(far_order(Function(curve, [0, 1], [], [1])), 2)
            self.assertEqual(far_order(Function(curve, [1], [], [0, 1])), -2)
            self.assertEqual(far_order(Function(curve, [], [1], [1])), power)
            self.assertEqual(far_order(Function(curve, [], [0, 1], [0, 0, 0, 1, 1])), power - 6)
            for number in range(1, p):
                one = Function(curve, [number], [], [1])
                self.assertEqual((far_order(one), lead(one)), (0, number))
                self.assertEqual(lead(Function(curve, [1], [0, number], [0, 1])), number)
                self.assertEqual(lead(Function(curve, [1] * 20 + [number], [1] * 4, [0, 1])), number)

    def test_parts_that_lie_close(self):
        for p in PRIMES:
            for f in ([1, 1], [0, p - 1, 0, 1], [0, 1, 0, 0, 0, 1], [1, int(p == 7), 0, 0, 0, 0, 0, 1]):
                curve, power = Curve(p, f), len(f) - 1
                below, above = [1] * (power // 2) + [2], [1] * (power // 2 + 1) + [2]
                self.assertEqual((far_order(Function(curve, below, [1], [1])), lead(Function(curve, below, [1], [1]))),
                                 (power, 1))
                self.assertEqual((far_order(Function(curve, above, [1], [1])), lead(Function(curve, above, [1], [1]))),
                                 (power + 1, 2))

    def test_a_bottom_that_is_not_monic(self):
        curve = Curve(7, [1, 1, 0, 1])
        self.assertEqual((lead(Function(curve, [0, 1], [], [0, 0, 2])), lead(Function(curve, [1], [3], [5]))), (4, 2))

    def test_products_and_sums(self):
        for curve in all_curves():
            p, told = curve.prime(), [one for one in samples(curve, 2) if one]
            for one in told:
                for other in told[::2]:
                    taken = product_of(one, other)
                    self.assertEqual(far_order(taken), far_order(one) + far_order(other))
                    self.assertEqual(lead(taken), lead(one) * lead(other) % p)
                    added = sum_of(one, other)
                    greater = max(far_order(one), far_order(other))
                    if far_order(one) != far_order(other):
                        self.assertEqual(far_order(added), greater)
                    elif added:
                        self.assertLessEqual(far_order(added), greater)

    def test_it_is_told_by_the_norm(self):
        for curve in all_curves():
            for one in samples(curve, 3):
                if one:
                    self.assertEqual(far_order(one), len(norm(one).top()) - len(norm(one).bottom()))

    def test_arguments_by_name(self):
        one = Function(Curve(5, [1, 1, 0, 1]), [0, 1], [3], [1])
        self.assertEqual((far_order(function=one), lead(function=one)), (3, 3))

    def test_nought(self):
        for curve in all_curves():
            for nought in (Function(curve, [], [], [1]), Function(curve, [], [], [0, 2])):
                assert_refused(self, InvalidFunction, nought, far_order, nought)
                assert_refused(self, InvalidFunction, nought, lead, nought)

    def test_wrong_arguments(self):
        one = Function(Curve(5, [1, 1, 0, 1]), [0, 1], [1], [1])
        for call in (far_order, lead):
            assert_each_refused(self, call, {"function": one}, {"function": (InvalidFunction, wrong_functions())})


class SlopeTest(unittest.TestCase):
    def test_slopes(self):
        for curve in all_curves():
            p, f = curve.prime(), curve.polynomial()
            for one in samples(curve, 4, 8, 5):
                told = slope(one)
                self.assertIs(type(told), Function)
                self.assertEqual(told.curve(), curve)
                self.assertEqual(tops(told), reckoning.function_slope(p, f, tops(one)))

    def test_x_y_and_numbers(self):
        for curve in all_curves():
            p, f = curve.prime(), curve.polynomial()
            self.assertEqual(tops(slope(Function(curve, [0, 1], [], [1]))), ([1], [], [1]))
            y = Function(curve, [], [1], [1])
            bent = Function(curve, reckoning.derived(p, f), [], reckoning.times(p, [2], f))
            self.assertEqual(slope(y), product_of(y, bent))
            self.assertEqual(product_of(sum_of(y, y), slope(y)), slope(product_of(y, y)))
            for number in range(p):
                told = slope(Function(curve, [number] if number else [], [], [1]))
                self.assertEqual(tops(told), ([], [], [1]))

    def test_sums_products_and_quotients(self):
        for curve in all_curves():
            told = samples(curve, 5, 4, 3)
            for one in told:
                for other in told[1::3]:
                    self.assertEqual(slope(sum_of(one, other)), sum_of(slope(one), slope(other)))
                    first, second = product_of(one, slope(other)), product_of(other, slope(one))
                    self.assertEqual(slope(product_of(one, other)), sum_of(first, second))
                    above = quotient_of(less_of(second, first), product_of(other, other))
                    self.assertEqual(slope(quotient_of(one, other)), above)

    def test_it_is_nought_for_pth_powers_alone(self):
        for curve in all_curves():
            for one in samples(curve, 6, 4, 2):
                self.assertEqual(tops(slope(times_p(one))), ([], [], [1]))
                self.assertIs(bool(slope(one)), pth_root(one) is None)
                for other in (Function(curve, [0, 1], [], [1]), Function(curve, [], [1], [1])):
                    mixed = sum_of(times_p(one), other)
                    self.assertIs(bool(slope(mixed)), True)
                    self.assertEqual(slope(mixed), slope(other))

    def test_arguments_by_name(self):
        one = Function(Curve(5, [1, 1, 0, 1]), [0, 1], [3], [1])
        self.assertEqual(slope(function=one), slope(one))

    def test_wrong_arguments(self):
        one = Function(Curve(5, [1, 1, 0, 1]), [0, 1], [1], [1])
        assert_each_refused(self, slope, {"function": one}, {"function": (InvalidFunction, wrong_functions())})

    def test_the_argument_stays(self):
        one = Function(Curve(5, [1, 1, 0, 1]), [0, 1], [1], [2, 1])
        for polynomial in tops(slope(one)):
            polynomial.append(1)
        self.assertEqual(tops(one), ([0, 1], [1], [2, 1]))
        self.assertEqual(tops(slope(one)), reckoning.function_slope(5, [1, 1, 0, 1], ([0, 1], [1], [2, 1])))


class PthRootTest(unittest.TestCase):
    def test_roots_of_pth_powers(self):
        for curve in all_curves():
            for one in samples(curve, 7, 5, 3):
                told = pth_root(times_p(one))
                self.assertIs(type(told), Function)
                self.assertEqual(told, one)

    def test_powers_of_powers(self):
        for p in (3, 5):
            for curve in curves_over(p):
                for one in plain_functions(curve) + mixed_functions(curve, 8, 2, 1):
                    twice = times_p(times_p(one))
                    self.assertEqual(pth_root(twice), times_p(one))
                    self.assertEqual(pth_root(pth_root(twice)), one)

    def test_numbers_are_their_own_roots(self):
        for curve in all_curves():
            for number in range(curve.prime()):
                one = Function(curve, [number] if number else [], [], [1])
                self.assertEqual(pth_root(one), one)

    def test_what_is_no_pth_power(self):
        for curve in all_curves():
            p, f = curve.prime(), curve.polynomial()
            x, y, one = [Function(curve, *told) for told in (([0, 1], [], [1]), ([], [1], [1]), ([1], [], [1]))]
            high_x, high_y, shifted = times_p(x), times_p(y), times_p(sum_of(x, one))
            if (p, f) != (3, [0, 1]):
                # On that one curve x is y times y, and so this product is a third power.
                self.assertIsNone(pth_root(product_of(x, y)))
            for told in [x, y, sum_of(x, y), quotient_of(one, x), quotient_of(one, y),
                         sum_of(high_x, y), sum_of(high_y, x), product_of(high_x, y), product_of(high_y, x),
                         quotient_of(high_x, x), quotient_of(y, high_x), quotient_of(high_x, sum_of(shifted, x)),
                         quotient_of(sum_of(shifted, x), high_x), quotient_of(sum_of(high_y, x), shifted),
                         power_of(y, p - 1), power_of(x, p + 1), product_of(Function(curve, f, [], [1]), high_y)]:
                self.assertIsNone(pth_root(told))

    def test_each_part_by_itself(self):
        for p in PRIMES:
            for curve in curves_over(p):
                bend = reckoning.taken(p, curve.polynomial(), (p - 1) // 2)
                high = [3 % p or 1] + [0] * (p - 1) + [2]
                low = [high[0], 2]
                self.assertEqual(tops(pth_root(Function(curve, [], bend, [1]))), ([], [1], [1]))
                self.assertEqual(tops(pth_root(Function(curve, high, [], [1]))), (low, [], [1]))
                self.assertEqual(tops(pth_root(Function(curve, high, bend, [1]))), (low, [1], [1]))
                self.assertEqual(tops(pth_root(Function(curve, high, bend, [0] * p + [1]))), (low, [1], [0, 1]))
                self.assertIsNone(pth_root(Function(curve, high, [0] + bend, [1])))
                self.assertIsNone(pth_root(Function(curve, [0] + high, bend, [1])))
                self.assertIsNone(pth_root(Function(curve, high, bend, [0] * (p - 1) + [1])))
                self.assertIsNone(pth_root(Function(curve, high, [1], [1])))

    def test_powers_of_y_at_the_bottom(self):
        for curve in all_curves():
            p = curve.prime()
            below = reckoning.taken(p, curve.polynomial(), (p + 1) // 2)
            self.assertEqual(tops(pth_root(Function(curve, [], [1], below))), ([], [1], curve.polynomial()))

    def test_common_factors_and_numbers_at_the_bottom(self):
        for p in PRIMES:
            curve, stream = Curve(p, [1, 1, 0, 1]), Stream(9)
            for shared in (stream.full_polynomial(p, 1), stream.full_polynomial(p, 3)):
                told = [product(p, [shared, [2] + [0] * (p - 1) + [1]]), [], product(p, [shared, [0] * p + [2]])]
                self.assertEqual(pth_root(Function(curve, *told)), Function(curve, [2, 1], [], [0, 2]))

    def test_arguments_by_name(self):
        self.assertIsNone(pth_root(function=Function(Curve(5, [1, 1, 0, 1]), [0, 1], [3], [1])))

    def test_wrong_arguments(self):
        one = Function(Curve(5, [1, 1, 0, 1]), [0, 1], [1], [1])
        assert_each_refused(self, pth_root, {"function": one}, {"function": (InvalidFunction, wrong_functions())})

    def test_the_argument_stays(self):
        one = times_p(Function(Curve(5, [1, 1, 0, 1]), [0, 1], [1], [2, 1]))
        kept = tops(one)
        for polynomial in tops(pth_root(one)):
            polynomial.append(1)
        self.assertEqual(tops(one), kept)
        self.assertEqual(tops(pth_root(one)), ([0, 1], [1], [2, 1]))


if __name__ == "__main__":
    unittest.main()
