"""Promise [7]: curves. With [2]: lists that are handed in and told belong to the caller."""

import unittest

from curveheads.curves import Curve
from curveheads.errors import InvalidPolynomial, InvalidPrime
from tests.samples import (
    PRIMES, assert_refused, is_undivided, monics, never_whole, product, rest_of, wrong_polynomials, wrong_primes)


class CurvesTest(unittest.TestCase):
    def test_prime_polynomial_and_genus(self):
        for p in PRIMES:
            # The slope of x ** 7 + 1 has no common factor with it, except over 7, where x ** 7 + x + 1 has none.
            seventh = [1, int(p == 7), 0, 0, 0, 0, 0, 1]
            for f in [[0, 1], [p - 1, 1], [0, 1, 0, 1], [0, p - 1, 0, 1], [0, 1, 0, 0, 0, 1], seventh]:
                curve = Curve(p, f)
                self.assertEqual((curve.prime(), curve.polynomial()), (p, f))
                self.assertEqual(curve.genus(), (len(f) - 2) // 2)
                self.assertIs(type(curve.genus()), int)

    def test_the_genus_of_each_power(self):
        told = [Curve(7, [1] + [0] * (power - 1) + [1]).genus() for power in (1, 3, 5)]
        self.assertEqual(told + [Curve(5, [1] + [0] * 6 + [1]).genus()], [0, 1, 2, 3])

    def test_arguments_by_name(self):
        curve = Curve(f=[1, 1, 0, 1], p=5)
        self.assertEqual((curve.prime(), curve.polynomial()), (5, [1, 1, 0, 1]))

    def test_all_monic_cubics_are_judged(self):
        # A cubic has a double factor exactly if it is some (x - a) ** 2 * (x - b).
        for p in (3, 5):
            linear = monics(p, 1)
            double = [product(p, [one, one, other]) for one in linear for other in linear]
            for f in monics(p, 3):
                if f in double:
                    assert_refused(self, InvalidPolynomial, f, Curve, p, f)
                else:
                    self.assertEqual(Curve(p, f).polynomial(), f)

    def test_greater_double_factors(self):
        bend = [1, 0, 1]
        self.assertTrue(is_undivided(3, bend) and is_undivided(7, bend))
        for p in (3, 7):
            for rest in [[0, 1], [1, 1], [0, 1, 0, 1], [1, 2, 0, 1]]:
                f = product(p, [bend, bend, rest])
                assert_refused(self, InvalidPolynomial, f, Curve, p, f)
            Curve(p, product(p, [bend, [1, 1]]))

    def test_a_double_factor_that_does_not_catch_the_eye(self):
        f = [1, 1, 0, 0, 0, 0, 0, 1]
        self.assertEqual(rest_of(11, f, product(11, [[3, 1], [3, 1]])), [0] * 8)
        assert_refused(self, InvalidPolynomial, f, Curve, 11, f)

    def test_all_powers_may_have_factors_that_are_single(self):
        for p in PRIMES:
            for many in (1, 3, 5, 7):
                if many <= p:
                    f = product(p, [[number, 1] for number in range(many)])
                    self.assertEqual(Curve(p, f).polynomial(), f)
                    double = product(p, [[number, 1] for number in range(many - 1)] + [[0, 1]])
                    if many > 1:
                        assert_refused(self, InvalidPolynomial, double, Curve, p, double)

    def test_powers_with_a_slope_of_nought(self):
        for p, f in [(3, [1, 0, 0, 1]), (3, [0, 0, 0, 1]), (5, [2, 0, 0, 0, 0, 1]), (7, [4] + [0] * 6 + [1])]:
            assert_refused(self, InvalidPolynomial, f, Curve, p, f)

    def test_powers_that_are_refused(self):
        for p in PRIMES:
            for power in (2, 4, 6, 8, 9, 11, 13, 15, 59, 60, 61, 101):
                f = [1, 1] + [0] * (power - 2) + [1]
                assert_refused(self, InvalidPolynomial, f, Curve, p, f)
            for f in ([], [1], [p - 1]):
                assert_refused(self, InvalidPolynomial, f, Curve, p, f)

    def test_what_is_not_monic(self):
        for p in PRIMES:
            for lead in range(2, p):
                for f in ([1, lead], [1, 1, 0, lead], [0, 1, 0, 0, 0, lead], [1, 1] + [0] * 5 + [lead]):
                    assert_refused(self, InvalidPolynomial, f, Curve, p, f)

    def test_what_is_no_prime(self):
        for p in wrong_primes():
            assert_refused(self, InvalidPrime, p, Curve, p, [0, 1])
            assert_refused(self, InvalidPrime, p, Curve, f=[0, 1], p=p)

    def test_the_prime_is_checked_first(self):
        for p in [4, True, None, "3", [3], Curve(3, [0, 1])]:
            for f in wrong_polynomials(3) + [[], [1], [0, 0, 1]]:
                assert_refused(self, InvalidPrime, p, Curve, p, f)

    def test_what_is_no_polynomial(self):
        for p in PRIMES:
            for f in wrong_polynomials(p):
                assert_refused(self, InvalidPolynomial, f, Curve, p, f)
                assert_refused(self, InvalidPolynomial, f, Curve, p=p, f=f)
            for f in [[1, True, 0, 1], [1, 1, False, 1], [1, 1, 0, True], (1, 1, 0, 1), [1, 1, 0, 1, 0, 0],
                      [p, 1, 0, 1]]:
                assert_refused(self, InvalidPolynomial, f, Curve, p, f)

    def test_equality(self):
        curve = Curve(5, [1, 1, 0, 1])
        self.assertTrue(curve == Curve(5, [1, 1, 0, 1]))
        self.assertFalse(curve != Curve(5, [1, 1, 0, 1]))
        for other in [Curve(7, [1, 1, 0, 1]), Curve(5, [1, 2, 0, 1]), Curve(5, [1, 1]), Curve(7, [1, 1])]:
            self.assertFalse(curve == other)
            self.assertTrue(curve != other)
        self.assertTrue(Curve(5, [0, 1, 0, 1]) != Curve(7, [0, 1, 0, 1]))

    def test_equal_to_nothing_else(self):
        curve = Curve(3, [0, 1])
        others = [one for one in never_whole() if not isinstance(one, Curve)] + [3, (3, [0, 1]), [3, [0, 1]], [0, 1]]
        for other in others:
            for told in (curve == other, other == curve):
                self.assertIs(told, False)
            self.assertIs(curve != other, True)

    def test_the_argument_stays_and_may_change_afterwards(self):
        f = [1, 1, 0, 1]
        curve = Curve(5, f)
        self.assertEqual(f, [1, 1, 0, 1])
        f[0] = 3
        f.append(4)
        self.assertEqual(curve.polynomial(), [1, 1, 0, 1])
        self.assertEqual(curve, Curve(5, [1, 1, 0, 1]))

    def test_the_told_list_belongs_to_the_caller(self):
        curve = Curve(5, [1, 1, 0, 1])
        told = curve.polynomial()
        self.assertIsNot(told, curve.polynomial())
        told[0] = 3
        told.append(2)
        self.assertEqual((curve.polynomial(), curve.genus()), ([1, 1, 0, 1], 1))
        self.assertEqual(curve, Curve(5, [1, 1, 0, 1]))

    def test_a_refused_argument_stays(self):
        f = [1, [True], 0]
        with self.assertRaises(InvalidPolynomial):
            Curve(5, f)
        self.assertEqual(f, [1, [True], 0])


if __name__ == "__main__":
    unittest.main()
