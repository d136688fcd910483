"""Promise [3]: each function answers within seconds at its limits."""

import time
import unittest

from curveheads.curves import Curve
from curveheads.errors import TooMany
from curveheads.fields import value_norm, value_product, value_quotient, value_sum, value_trace
from curveheads.functions import (
    Function, far_order, lead, less_of, norm, power_of, product_of, pth_root, quotient_of, slope, sum_of, trace, turned)
from curveheads.orders import order_at
from curveheads.places import is_place, place_degree, place_turned, places_of, places_over
from curveheads.primes import factors, how_many_primes, is_prime, primes_of
from tests import reckoning
from tests.place_samples import branches, low_places, plain_place, wide_place
from tests.samples import PRIMES, Stream, curves_over, first_primes, product, tops

SECONDS = 5


def great_polynomial(curve, parts):
    """The function that a polynomial is, as a product of polynomials that may be handed in."""
    found = Function(curve, [1], [], [1])
    for one in parts:
        found = product_of(found, Function(curve, one, [], [1]))
    return found


def great_function(curve, seed):
    """A function whose three polynomials have the power 200."""
    p, stream, y = curve.prime(), Stream(seed), Function(curve, [], [1], [1])
    top, side, bottom = [
        great_polynomial(curve, [stream.full_polynomial(p, power) for power in (60, 60, 60, 20)]) for _ in range(3)]
    return quotient_of(sum_of(top, product_of(side, y)), bottom)


class TimedTest(unittest.TestCase):
    def within_seconds(self, call, *arguments):
        # The time of this process alone counts, whatever else the machine is doing.
        start = time.process_time()
        told = call(*arguments)
        self.assertLess(time.process_time() - start, SECONDS, (call.__name__, arguments))
        return told


class LimitsTest(TimedTest):
    def test_factors_of_the_power_60(self):
        for p in PRIMES:
            linear = [[number, 1] for number in range(p)]
            for one in [
                    [0] * 60 + [1], [p - 1] + [0] * 59 + [1], [1] * 61, [p - 1] * 61, [1, 1] + [0] * 58 + [1],
                    [(at * at + 2 * at + 1) % p for at in range(60)] + [2],
                    product(p, (linear * 20)[:60]), product(p, [[1, 1]] * 60)]:
                told = self.within_seconds(factors, p, one)
                self.assertEqual(sum((len(prime) - 1) * times for prime, times in told), 60)

    def test_how_many_primes_of_the_power_60(self):
        for p in PRIMES:
            self.assertGreater(self.within_seconds(how_many_primes, p, 60), 10 ** 26)

    def test_primes_of(self):
        for p, power in [(3, 8), (5, 5), (7, 4), (11, 3), (13, 3)]:
            self.assertGreater(len(self.within_seconds(primes_of, p, power)), 400)
            with self.assertRaises(TooMany):
                self.within_seconds(primes_of, p, 60)

    def test_is_prime_of_the_power_12(self):
        for p in PRIMES:
            for one in [[0] * 12 + [1], [p - 1] + [0] * 11 + [1], [1] * 13, [1, 1] + [0] * 10 + [1]]:
                self.within_seconds(is_prime, p, one)
            self.assertIs(self.within_seconds(is_prime, p, [1] * 13), p in (7, 11))

    def test_curves_of_the_power_7(self):
        for p in PRIMES:
            self.assertEqual(self.within_seconds(Curve, p, [1, int(p == 7), 0, 0, 0, 0, 0, 1]).genus(), 3)

    def test_functions_of_the_power_200(self):
        for p in PRIMES:
            for curve in curves_over(p)[3::4]:
                one, other = great_function(curve, 1), great_function(curve, 2)
                for polynomial in tops(one) + tops(other):
                    self.assertIn(len(polynomial), range(190, 202))
                for call in (sum_of, less_of, product_of, quotient_of):
                    told = self.within_seconds(call, one, other)
                    self.assertGreater(len(told.bottom()), 300)
                for call in (turned, norm, trace, slope):
                    self.assertTrue(self.within_seconds(call, one))
                self.assertIs(type(self.within_seconds(far_order, one)), int)
                self.assertIs(type(self.within_seconds(lead, one)), int)
                self.assertIsNone(self.within_seconds(pth_root, one))
                self.assertEqual(self.within_seconds(less_of, one, one), Function(curve, [], [], [1]))
                self.assertEqual(self.within_seconds(quotient_of, one, one), Function(curve, [1], [], [1]))

    def test_pth_roots_of_the_power_200(self):
        for p in PRIMES:
            for curve in curves_over(p)[1::2]:
                stream, most = Stream(3), (200 - len(curve.polynomial()) * p // 2) // p
                one = Function(curve, *[stream.full_polynomial(p, min(60, most)) for _ in range(3)])
                high = power_of(one, p)
                self.assertEqual(self.within_seconds(pth_root, high), one)
                self.assertEqual(tops(self.within_seconds(slope, high)), ([], [], [1]))

    def test_exponents_of_20(self):
        for p in PRIMES:
            for curve in curves_over(p)[3::4]:
                stream = Stream(4)
                one = Function(curve, *[stream.full_polynomial(p, 20) for _ in range(3)])
                high = self.within_seconds(power_of, one, 20)
                self.assertEqual(far_order(high), 20 * far_order(one))
                self.assertEqual(far_order(self.within_seconds(power_of, one, -20)), -20 * far_order(one))

    def test_places_of_the_greatest_degrees(self):
        for p, degree in [(3, 3), (5, 3), (7, 3), (11, 2), (13, 2)]:
            for curve in curves_over(p):
                self.assertTrue(self.within_seconds(places_of, curve, degree))

    def test_places_of_the_power_12(self):
        for p in PRIMES:
            for curve in curves_over(p)[1::2]:
                for q in first_primes(p, 12, 12):
                    for place in self.within_seconds(places_over, curve, q):
                        self.assertIs(self.within_seconds(is_place, curve, place), True)
                        self.assertGreater(self.within_seconds(place_degree, curve, place), 11)
                        self.within_seconds(place_turned, curve, place)

    def test_orders_of_functions_of_the_power_200(self):
        for p in PRIMES:
            for curve in curves_over(p)[1::2]:
                low = low_places(curve, 2)
                one = great_function(curve, 5)
                for place in [(), *low[:4], *low[-2:], *branches(curve), plain_place(curve, 12), wide_place(curve, 12)]:
                    self.assertIs(type(self.within_seconds(order_at, curve, one, place)), int)

    def test_orders_as_great_as_can_be(self):
        for p in PRIMES:
            for curve in curves_over(p)[1::2]:
                number, y = Function(curve, [1], [], [1]), Function(curve, [], [1], [1])
                for q, w in [*low_places(curve, 1), branches(curve)[0], plain_place(curve, 12), wide_place(curve, 12)]:
                    power = len(q) - 1
                    block = reckoning.taken(p, q, 20 // power or 1)
                    often, e = 200 // (len(block) - 1), 2 if w == [] else 1
                    high, wanted = great_polynomial(curve, [block] * often), e * often * (20 // power or 1)
                    for function, order in [(high, wanted), (quotient_of(number, high), -wanted),
                                            (product_of(high, y), wanted + e - 1)]:
                        self.assertEqual(self.within_seconds(order_at, curve, function, (q, w)), order)

    def test_functions_that_begin_like_y(self):
        for p in PRIMES:
            for curve in curves_over(p)[1::2]:
                f = curve.polynomial()
                for place in [[place for place in low_places(curve) if place[1]][0], plain_place(curve, 12)]:
                    count = 60 // (len(place[0]) - 1)
                    root = reckoning.less(p, [], reckoning.lifted(p, f, place, count))
                    begun = self.within_seconds(order_at, curve, Function(curve, root, [1], [1]), place)
                    self.assertGreaterEqual(begun, count)

    def test_values_at_places_of_the_power_12(self):
        for p in PRIMES:
            for curve in curves_over(p)[1::2]:
                stream = Stream(6)
                one, other, left, right = [stream.full_polynomial(p, 11) for _ in range(4)]
                for place, first, second in [(plain_place(curve, 12), one, other),
                                             (wide_place(curve, 12), (one, left), (other, right))]:
                    for call in (value_sum, value_product, value_quotient):
                        self.within_seconds(call, curve, place, first, second)
                    self.assertIn(self.within_seconds(value_norm, curve, place, first), range(1, p))
                    self.assertIn(self.within_seconds(value_trace, curve, place, first), range(p))


if __name__ == "__main__":
    unittest.main()
