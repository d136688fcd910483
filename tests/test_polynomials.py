"""What promises [6] to [22] rest on: products and quotients of polynomials of great powers, and their prime factors."""

import unittest

from curveheads.polynomials import poly_bezout, poly_divided, poly_product, poly_sum
from curveheads.primes import prime_divisors
from tests import reckoning
from tests.samples import PRIMES, Stream, first_primes, product

POWERS = (0, 1, 2, 11, 12, 13, 58, 59, 60, 61, 119, 120, 121, 200)


class PolynomialsTest(unittest.TestCase):
    def test_products(self):
        for p in PRIMES:
            stream = Stream(1)
            for power in POWERS:
                for other in POWERS[::2]:
                    left, right = stream.full_polynomial(p, power), stream.full_polynomial(p, other)
                    self.assertEqual(poly_product(p, left, right), product(p, [left, right]))
            self.assertEqual(poly_product(p, [], stream.full_polynomial(p, 70)), [])

    def test_the_greatest_sums(self):
        for p in PRIMES:
            for power in POWERS:
                one = [p - 1] * (power + 1)
                self.assertEqual(poly_product(p, one, one), product(p, [one, one]))

    def test_quotients(self):
        for p in PRIMES:
            stream = Stream(2)
            for power in (0, 1, 12, 60, 99, 100, 101, 102, 150, 205):
                for other in (0, 1, 13, 60, 99, 100, 101, 140):
                    one, low = stream.full_polynomial(p, power + other), stream.full_polynomial(p, other)
                    if power % 2:
                        # Many noughts at the end from which a quotient is read.
                        low[other // 3:other] = [0] * (other - other // 3)
                    quotient, rest = poly_divided(p, one, low)
                    self.assertLess(len(rest), len(low))
                    self.assertEqual(poly_sum(p, reckoning.times(p, quotient, low), rest), one)
                    exact = reckoning.times(p, one, low)
                    self.assertEqual(poly_divided(p, exact, low), (one, []))

    def test_quotients_of_lesser_powers(self):
        self.assertEqual(poly_divided(5, [1, 2], [3, 0, 1]), ([], [1, 2]))
        self.assertEqual(poly_divided(5, [], [3, 0, 1]), ([], []))

    def test_common_factors(self):
        for p in PRIMES:
            stream = Stream(3)
            for power in (0, 1, 3, 20):
                shared = stream.full_polynomial(p, power)
                left, right = [product(p, [shared, stream.full_polynomial(p, 7)]) for _ in range(2)]
                for one, other in [(left, right), (left, []), (right, shared), (shared, left), (left, left)]:
                    found, low, high = poly_bezout(p, one, other)
                    self.assertEqual(found, reckoning.common(p, one, other))
                    summed = reckoning.plus(p, reckoning.times(p, low, one), reckoning.times(p, high, other))
                    self.assertEqual(summed, found)

    def test_prime_factors_of_great_powers(self):
        for p in PRIMES:
            few = [one for power in (1, 2, 3, 7, 12) for one in first_primes(p, power, 4)]
            told = [(few, 1), (first_primes(p, 12, 9), 1), (first_primes(p, 2, 3) + first_primes(p, 11, 6), 2),
                    (first_primes(p, 6, 12) + first_primes(p, 5, 4), 1), (first_primes(p, 1, 3), p + 9)]
            for primes, times in told:
                one = product(p, primes * times)
                self.assertEqual(sorted(prime_divisors(p, one)), sorted(primes))

    def test_a_prime_factor_of_a_great_power(self):
        for p, high in [(3, [1, 2] + [0] * 38 + [1]), (5, first_primes(5, 40, 1)[0])]:
            found = prime_divisors(p, product(p, [high, *first_primes(p, 12, 3)]))
            self.assertEqual(product(p, found), product(p, [high, *first_primes(p, 12, 3)]))
            for one in first_primes(p, 12, 3):
                self.assertIn(one, found)


if __name__ == "__main__":
    unittest.main()
