"""The examples of the document, row by row, with the answers that stand there."""

import unittest

from curveheads.curves import Curve
from curveheads.fields import value_norm, value_product, value_quotient, value_sum, value_trace
from curveheads.functions import (
    Function, far_order, lead, less_of, norm, power_of, product_of, pth_root, quotient_of, slope, sum_of, trace, turned)
from curveheads.orders import order_at
from curveheads.places import is_place, place_degree, place_turned, places_of, places_over
from curveheads.primes import factors, how_many_primes, is_prime, primes_of


class DocumentTest(unittest.TestCase):
    def test_prime_polynomials(self):
        told = [is_prime(3, [1, 0, 1]), is_prime(3, [2, 0, 1]), [how_many_primes(3, power) for power in range(1, 6)],
                primes_of(3, 2), factors(3, [0, 2, 0, 2]), factors(3, [2])]
        self.assertEqual(told, [True, False, [3, 3, 8, 18, 48], [[1, 0, 1], [2, 1, 1], [2, 2, 1]],
                                [([0, 1], 1), ([1, 0, 1], 1)], []])

    def test_curves(self):
        told = [Curve(5, [1, 1, 0, 1]).genus(), Curve(3, [0, 2, 0, 1]).polynomial(), Curve(7, [3, 1]).genus(),
                Curve(3, [1, 0, 0, 0, 0, 1]).prime()]
        self.assertEqual(told, [1, [0, 2, 0, 1], 0, 3])


class FunctionsTest(unittest.TestCase):
    def setUp(self):
        self.curve = curve = Curve(5, [1, 1, 0, 1])
        self.x, self.y, self.one = [Function(curve, *told) for told in
                                    (([0, 1], [], [1]), ([], [1], [1]), ([1], [], [1]))]

    def test_least_forms_sums_and_products(self):
        curve, x, y, one = self.curve, self.x, self.y, self.one
        told = [[z.top(), z.side(), z.bottom()] for z in [
            Function(curve, [0, 2], [0, 4], [0, 0, 2]), product_of(y, y), quotient_of(one, y), sum_of(x, y),
            less_of(x, x)]]
        self.assertEqual(told, [
            [[1], [2], [0, 1]], [[1, 1, 0, 1], [], [1]], [[], [1], [1, 1, 0, 1]], [[0, 1], [1], [1]], [[], [], [1]]])

    def test_norms_and_powers(self):
        x, y, one = self.x, self.y, self.one
        told = [norm(sum_of(x, y)).top(), trace(sum_of(x, y)).top(), turned(y).side(), power_of(x, -2).bottom(),
                power_of(y, 3).side(), power_of(y, 0) == one]
        self.assertEqual(told, [[4, 4, 1, 4], [0, 2], [4], [0, 0, 1], [1, 1, 0, 1], True])

    def test_bool(self):
        self.assertEqual([bool(self.x), bool(less_of(self.x, self.x))], [True, False])

    def test_far_orders(self):
        x, y, one = self.x, self.y, self.one
        told = [far_order(x), far_order(y), far_order(quotient_of(x, y)), far_order(one), lead(sum_of(x, y)),
                lead(quotient_of(x, product_of(y, y)))]
        self.assertEqual(told, [2, 3, -1, 0, 1, 1])

    def test_slopes(self):
        x, y = self.x, self.y
        told = [[z.top(), z.side(), z.bottom()] for z in [
            slope(x), slope(product_of(x, x)), slope(y), slope(power_of(y, 5))]]
        self.assertEqual(told, [
            [[1], [], [1]], [[0, 2], [], [1]], [[], [3, 0, 4], [1, 1, 0, 1]], [[], [], [1]]])

    def test_roots(self):
        curve, x, y = self.curve, self.x, self.y
        told = [pth_root(power_of(sum_of(x, y), 5)) == sum_of(x, y), pth_root(x),
                pth_root(Function(curve, [3], [], [1])).top()]
        self.assertEqual(told, [True, None, [3]])


class PlacesTest(unittest.TestCase):
    def setUp(self):
        self.five, self.three, self.wide = Curve(5, [1, 1, 0, 1]), Curve(3, [0, 2, 0, 1]), ([4, 1], None)

    def test_places(self):
        five, three, wide = self.five, self.three, self.wide
        told = [is_place(five, ()), is_place(five, ([0, 1], [1])), is_place(five, ([0, 1], [2])), is_place(five, wide),
                is_place(three, ([0, 1], [])), place_degree(five, wide), place_degree(five, ([1, 1, 0, 1], [])),
                place_turned(five, ([0, 1], [1]))]
        self.assertEqual(told, [True, True, False, True, True, 2, 3, ([0, 1], [4])])

    def test_lists_of_places(self):
        five, three = self.five, self.three
        told = [places_over(five, [1, 1]), places_over(five, [4, 1]), places_of(three, 1), len(places_of(five, 1))]
        self.assertEqual(told, [
            [([1, 1], [2]), ([1, 1], [3])], [([4, 1], None)], [(), ([0, 1], []), ([1, 1], []), ([2, 1], [])], 9])

    def test_orders(self):
        five, three = self.five, self.three
        x, y = Function(five, [0, 1], [], [1]), Function(five, [], [1], [1])
        told = [order_at(five, x, ()), order_at(five, y, ()),
                order_at(five, Function(five, [4], [1], [1]), ([0, 1], [1])),
                order_at(three, Function(three, [0, 1], [], [1]), ([0, 1], [])),
                order_at(five, Function(five, [], [], [1]), ())]
        self.assertEqual(told, [-2, -3, 1, 2, None])

    def test_values(self):
        five, wide = self.five, self.wide
        told = [value_sum(five, wide, ([1], [2]), ([4], [3])), value_product(five, wide, ([], [1]), ([], [1])),
                value_quotient(five, wide, ([1], []), ([], [1])), value_norm(five, wide, ([], [1])),
                value_trace(five, wide, ([1], [2]))]
        self.assertEqual(told, [([], []), ([3], []), ([], [2]), 2, 2])


if __name__ == "__main__":
    unittest.main()
