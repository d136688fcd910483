"""Promise [3]: each function answers within seconds at its limits."""

import time
import unittest

from curveheads.curves import Curve
from curveheads.errors import TooMany
from curveheads.primes import factors, how_many_primes, is_prime, primes_of
from tests.samples import PRIMES, product

SECONDS = 5


class LimitsTest(unittest.TestCase):
    def within_seconds(self, call, *arguments):
        start = time.perf_counter()
        told = call(*arguments)
        self.assertLess(time.perf_counter() - start, SECONDS, (call.__name__, arguments))
        return told

    def test_factors_of_the_power_60(self):
        for p in PRIMES:
            linear = [[number, 1] for number in range(p)]
            for one in [
                    [0] * 60 + [1], [p - 1] + [0] * 59 + [1], [1] * 61, [p - 1] * 61, [1, 1] + [0] * 58 + [1],
                    [(at * at + 2 * at + 1) % p for at in range(60)] + [2],
                    product(p, (linear * 20)[:60]), product(p, [[1, 1]] * 60)]:
                told = self.within_seconds(factors, p, one)
                self.assertEqual(sum((len(prime) - 1) * times for prime, times in told), 60)

    def test_how_many_primes_of_the_power_60(self):
        for p in PRIMES:
            self.assertGreater(self.within_seconds(how_many_primes, p, 60), 10 ** 26)

    def test_primes_of(self):
        for p, power in [(3, 8), (5, 5), (7, 4), (11, 3), (13, 3)]:
            self.assertGreater(len(self.within_seconds(primes_of, p, power)), 400)
            with self.assertRaises(TooMany):
                self.within_seconds(primes_of, p, 60)

    def test_is_prime_of_the_power_12(self):
        for p in PRIMES:
            for one in [[0] * 12 + [1], [p - 1] + [0] * 11 + [1], [1] * 13, [1, 1] + [0] * 10 + [1]]:
                self.within_seconds(is_prime, p, one)
            self.assertIs(self.within_seconds(is_prime, p, [1] * 13), p in (7, 11))

    def test_curves_of_the_power_7(self):
        for p in PRIMES:
            self.assertEqual(self.within_seconds(Curve, p, [1, int(p == 7), 0, 0, 0, 0, 0, 1]).genus(), 3)


if __name__ == "__main__":
    unittest.main()
