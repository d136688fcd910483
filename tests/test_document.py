"""The examples of the document, row by row, with the answers that stand there."""

import unittest

from curveheads.curves import Curve
from curveheads.primes import factors, how_many_primes, is_prime, primes_of


class DocumentTest(unittest.TestCase):
    def test_prime_polynomials(self):
        told = [is_prime(3, [1, 0, 1]), is_prime(3, [2, 0, 1]), [how_many_primes(3, power) for power in range(1, 6)],
                primes_of(3, 2), factors(3, [0, 2, 0, 2]), factors(3, [2])]
        self.assertEqual(told, [True, False, [3, 3, 8, 18, 48], [[1, 0, 1], [2, 1, 1], [2, 2, 1]],
                                [([0, 1], 1), ([1, 0, 1], 1)], []])

    def test_curves(self):
        told = [Curve(5, [1, 1, 0, 1]).genus(), Curve(3, [0, 2, 0, 1]).polynomial(), Curve(7, [3, 1]).genus(),
                Curve(3, [1, 0, 0, 0, 0, 1]).prime()]
        self.assertEqual(told, [1, [0, 2, 0, 1], 0, 3])


if __name__ == "__main__":
    unittest.main()
