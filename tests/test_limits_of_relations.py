"""Promise [3], for slopes, gaps, relations and symbols: each function answers within seconds at its limits."""

import unittest

from curveheads.differentials import differentials_above
from curveheads.functions import Function, less_of, power_of, product_of, pth_root, quotient_of, slope
from curveheads.gaps import gap_differential, gaps, is_with_pole, pair_gaps, with_pole, with_poles
from curveheads.places import places_of
from curveheads.relations import degree, is_relation, relation, share
from curveheads.slopes import divided_slopes_in, slopes_in, whose_divided_slope, whose_slope
from curveheads.symbols import symbol, symbols
from tests import reckoning
from tests.head_samples import sign_taken
from tests.place_samples import branches, low_places, plain_place, wide_place
from tests.samples import PRIMES, Stream, curves_over, first_primes
from tests.space_samples import with_degree
from tests.test_limits import TimedTest, great_function, great_polynomial
from tests.test_limits_of_spaces import great_bundles
from tests.test_relations import low_degrees


def product_of_all(curve, parts):
    found = Function(curve, [1], [], [1])
    for one in parts:
        found = product_of(found, one)
    return found


class SlopesLimitsTest(TimedTest):
    def test_functions_of_the_power_60(self):
        for p in PRIMES:
            for curve in curves_over(p)[1::2]:
                stream = Stream(1)
                one = Function(curve, *[stream.full_polynomial(p, 60) for _ in range(3)])
                self.assertIsNone(self.within_seconds(whose_slope, one))
                self.assertIsNone(self.within_seconds(whose_divided_slope, one))

    def test_slopes_of_the_power_60(self):
        for p in PRIMES:
            for curve in curves_over(p)[1::2]:
                stream, most = Stream(2), 30 - len(curve.polynomial()) // 2
                one = Function(curve, *[stream.full_polynomial(p, most) for _ in range(3)])
                z = slope(one)
                self.assertIn(len(z.bottom()), range(55, 62))
                told = self.within_seconds(whose_slope, z)
                self.assertIsNotNone(self.within_seconds(pth_root, less_of(told, one)))

    def test_divided_slopes_of_the_power_60(self):
        for p in PRIMES:
            for curve in curves_over(p)[1::2]:
                stream = Stream(3)
                high = [power_of(Function(curve, q, [], [1]), 1 + at % (p - 1)) for at, q in enumerate(
                    first_primes(p, 12, 5))]
                mixed = [Function(curve, stream.full_polynomial(p, 11), stream.full_polynomial(p, 11),
                                  stream.full_polynomial(p, 12))]
                for one in (product_of_all(curve, high), product_of_all(curve, mixed)):
                    z = quotient_of(slope(one), one)
                    told = self.within_seconds(whose_divided_slope, z)
                    self.assertEqual(self.within_seconds(slope, told), self.within_seconds(product_of, z, told))

    def test_bundles_below_12_differentials(self):
        for p in PRIMES:
            for curve in curves_over(p)[p % 4::4]:
                for bundle in great_bundles(curve):
                    bundle = with_degree(bundle, curve.genus() - 13)
                    self.assertIn(len(differentials_above(curve, bundle)), range(12, 14))
                    self.within_seconds(slopes_in, curve, bundle)
                    self.within_seconds(divided_slopes_in, curve, bundle)


class GapsLimitsTest(TimedTest):
    def test_orders_of_30(self):
        for p in PRIMES:
            for curve in curves_over(p)[1::2]:
                told = places_of(curve, 1)
                great = great_function(curve, 4)
                for place in (told[0], told[-1]):
                    self.within_seconds(gaps, curve, place)
                    for order in (1, 29, 30):
                        one = self.within_seconds(with_pole, curve, place, order)
                        self.within_seconds(gap_differential, curve, place, order)
                        self.assertIs(self.within_seconds(is_with_pole, curve, place, order, one), one is not None)
                        self.assertIs(self.within_seconds(is_with_pole, curve, place, order, great), False)

    def test_pairs_of_15(self):
        for p in PRIMES:
            for curve in curves_over(p)[1::2]:
                told = places_of(curve, 1)
                for one, other in [(told[0], told[-1]), (told[-1], told[0]), (told[-1], told[-2])]:
                    if one != other:
                        self.within_seconds(pair_gaps, curve, one, other)
                        for pair in ((15, 15), (0, 15), (15, 0), (1, 14)):
                            self.within_seconds(with_poles, curve, one, other, pair)


class RelationsLimitsTest(TimedTest):
    def test_functions_of_degree_6(self):
        for p in PRIMES:
            for curve in curves_over(p)[p % 4::4]:
                told = [one for one in low_degrees(curve, 1, 60) if degree(one) > 4][:4]
                every = [(i, j, 1 + (i + j) % (p - 1)) for i in range(13) for j in range(13)]
                for one in told:
                    for other in told:
                        found = self.within_seconds(relation, one, other)
                        self.assertGreater(self.within_seconds(share, one, other), 0)
                        self.assertIs(self.within_seconds(is_relation, one, other, found), True)
                        self.within_seconds(is_relation, one, other, every)

    def test_degrees_of_great_functions(self):
        for p in PRIMES:
            for curve in curves_over(p)[1::2]:
                self.assertGreater(self.within_seconds(degree, great_function(curve, 2)), 300)


class SymbolsLimitsTest(TimedTest):
    def test_functions_of_the_power_200_and_orders_of_12(self):
        for p in PRIMES:
            for curve in curves_over(p)[1::2]:
                one, other = great_function(curve, 1), great_function(curve, 2)
                y = Function(curve, [1], [1], [1])
                for place in [(), *branches(curve)[:1], *low_places(curve)[:2], plain_place(curve, 12),
                              wide_place(curve, 12)]:
                    self.assertIn(self.within_seconds(symbol, one, other, place), range(1, p))
                    t = sign_taken(curve, place, 1)
                    high, low = product_of(power_of(t, 12), y), power_of(t, -12)
                    for left, right in ((high, low), (low, high), (one, low)):
                        self.assertIn(self.within_seconds(symbol, left, right, place), range(1, p))

    def test_all_symbols_of_functions_of_the_power_40(self):
        for p in PRIMES:
            for curve in curves_over(p)[1::2]:
                primes, y = first_primes(p, 12, 12), Function(curve, [], [1], [1])
                one = quotient_of(great_polynomial(curve, primes[:3]), great_polynomial(curve, primes[3:6]))
                other = product_of(quotient_of(great_polynomial(curve, primes[6:9]), great_polynomial(
                    curve, primes[9:])), y)
                low = quotient_of(sign_taken(curve, low_places(curve)[0], 12), great_polynomial(
                    curve, [reckoning.taken(p, [1, 1], 12)]))
                for left, right in ((one, other), (other, low), (one, low)):
                    total = 1
                    for _, number in self.within_seconds(symbols, left, right):
                        total = total * number % p
                    self.assertEqual(total, 1)


if __name__ == "__main__":
    unittest.main()
