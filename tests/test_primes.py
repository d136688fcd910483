"""Promise [6]: prime polynomials. With [2]: lists that are handed in and told belong to the caller."""

import unittest

from curveheads.curves import Curve
from curveheads.errors import InvalidNumber, InvalidPolynomial, InvalidPrime, TooMany
from curveheads.primes import factors, how_many_primes, is_prime, primes_of
from tests.samples import (
    PRIMES, assert_no_list_twice, assert_refused, first_primes, is_one_prime, is_undivided, monics, nested, product,
    spread, wrong_polynomials, wrong_powers, wrong_primes)

# The greatest power of which there are at most 1,000 prime polynomials, and how many there are of it and the next.
MOST_LISTED = {3: (8, 810, 2184), 5: (5, 624, 2580), 7: (4, 588, 3360), 11: (3, 440, 3630), 13: (3, 728, 7098)}


def moebius(number):
    sign = 1
    for part in range(2, number + 1):
        if number % part == 0:
            number //= part
            sign = -sign
            if number % part == 0:
                return 0
    return sign


def counted(p, power):
    """How many prime polynomials have a power, by the sum over the divisors."""
    return sum(moebius(power // part) * p ** part for part in range(1, power + 1) if power % part == 0) // power


class ArithmeticOfTheTests(unittest.TestCase):
    def test_both_ways_to_judge_agree(self):
        for p, power in [(3, 1), (3, 2), (3, 3), (3, 4), (3, 5), (5, 2), (5, 3), (7, 2)]:
            for one in monics(p, power):
                self.assertEqual(is_one_prime(p, one), is_undivided(p, one))

    def test_as_many_primes_are_found_as_are_asked_for(self):
        for p in PRIMES:
            for power in (6, 9, 12, 13, 17, 20):
                self.assertEqual(len(first_primes(p, power, 2)), 2)


class IsPrimeTest(unittest.TestCase):
    def test_all_monic_polynomials_of_low_powers(self):
        for p, most in [(3, 6), (5, 4), (7, 3), (11, 2), (13, 2)]:
            for power in range(1, most + 1):
                for one in monics(p, power):
                    self.assertIs(is_prime(p, one), is_undivided(p, one), (p, one))

    def test_powers_up_to_12_and_no_greater_ones(self):
        for p in PRIMES:
            for power in (11, 12):
                for one in first_primes(p, power, 3):
                    self.assertIs(is_prime(p, one), True)
            for power in (13, 14, 17):
                for one in first_primes(p, power, 2):
                    self.assertIs(is_prime(p, one), False)

    def test_products_of_the_power_12(self):
        for p in PRIMES:
            for low in (1, 2, 3):
                lower = primes_of(p, low)[-1]
                for one in first_primes(p, 12 - low, 2):
                    self.assertIs(is_prime(p, product(p, [lower, one])), False)
            sixth = first_primes(p, 6, 1)[0]
            self.assertIs(is_prime(p, product(p, [sixth, sixth])), False)
            self.assertIs(is_prime(p, [0] * 12 + [1]), False)
            self.assertIs(is_prime(p, product(p, [primes_of(p, 2)[0]] * 6)), False)

    def test_what_is_not_monic(self):
        for p in PRIMES:
            for lead in range(2, p):
                for one in [[0, 1], [1, 1], primes_of(p, 2)[0], primes_of(p, 3)[0], first_primes(p, 12, 1)[0]]:
                    self.assertIs(is_prime(p, [number * lead % p for number in one]), False)

    def test_numbers_and_nought(self):
        for p in PRIMES:
            for one in [[]] + [[number] for number in range(1, p)]:
                self.assertIs(is_prime(p, one), False)

    def test_whatever_is_no_polynomial(self):
        for p in PRIMES:
            others = [[0, True], [True, 0, 1], [1, 0, True], (1, 0, 1), [1, 0, 1, 0], [1, [0], 1], [1, 0, "1"]]
            for value in wrong_polynomials(p) + others + [nested(30), {0: [0, 1]}, [0] * 200 + [1]]:
                self.assertIs(is_prime(p, value), False, (p, value))

    def test_the_prime_is_checked_first(self):
        for p in wrong_primes():
            for value in ([0, 1], None, True, [True], (0, 1), Curve(3, [0, 1])):
                assert_refused(self, InvalidPrime, p, is_prime, p, value)
            assert_refused(self, InvalidPrime, p, is_prime, value=[0, 1], p=p)

    def test_arguments_by_name(self):
        self.assertIs(is_prime(value=[1, 0, 1], p=3), True)
        self.assertIs(is_prime(p=5, value=[1, 0, 1]), False)


class HowManyPrimesTest(unittest.TestCase):
    def test_all_powers(self):
        for p in PRIMES:
            for power in range(1, 61):
                self.assertEqual(how_many_primes(p, power), counted(p, power))

    def test_low_powers_counted_one_by_one(self):
        for p, most in [(3, 6), (5, 4), (7, 3), (11, 2), (13, 2)]:
            for power in range(1, most + 1):
                many = sum(is_undivided(p, one) for one in monics(p, power))
                self.assertEqual(how_many_primes(p, power), many)

    def test_the_greatest_power(self):
        self.assertEqual(how_many_primes(3, 60), (3 ** 60 - 3 ** 30 - 3 ** 20 - 3 ** 12 + 3 ** 10 + 3 ** 6 + 3 ** 4
                                                  - 3 ** 2) // 60)

    def test_arguments_by_name(self):
        self.assertEqual(how_many_primes(power=2, p=5), 10)

    def test_wrong_arguments(self):
        for p in wrong_primes():
            for power in [1, 60, 0, 61, None, True, "1", [1]]:
                assert_refused(self, InvalidPrime, p, how_many_primes, p, power)
            assert_refused(self, InvalidPrime, p, how_many_primes, power=2, p=p)
        for p in PRIMES:
            for power in wrong_powers():
                assert_refused(self, InvalidNumber, power, how_many_primes, p, power)
                assert_refused(self, InvalidNumber, power, how_many_primes, power=power, p=p)


class PrimesOfTest(unittest.TestCase):
    def test_low_powers_are_all_listed_in_order(self):
        for p, most in [(3, 6), (5, 4), (7, 3), (11, 2), (13, 2)]:
            for power in range(1, most + 1):
                listed = sorted(one for one in monics(p, power) if is_undivided(p, one))
                self.assertEqual(primes_of(p, power), listed)

    def test_all_powers_that_are_listed(self):
        for p, (most, many, _) in MOST_LISTED.items():
            for power in range(1, most + 1):
                told = primes_of(p, power)
                self.assertIs(type(told), list)
                self.assertEqual(told, sorted(told))
                self.assertEqual(len({tuple(one) for one in told}), counted(p, power))
                self.assertEqual(len(told), counted(p, power))
                for one in told:
                    self.assertTrue(len(one) == power + 1 and is_one_prime(p, one))
            self.assertEqual(len(told), many)

    def test_too_many(self):
        for p, (most, _, many) in MOST_LISTED.items():
            with self.assertRaises(TooMany) as caught:
                primes_of(p, most + 1)
            self.assertEqual(caught.exception.value, many)
            for power in range(most + 1, 61):
                with self.assertRaises(TooMany) as caught:
                    primes_of(p, power)
                self.assertIs(type(caught.exception.value), int)
                self.assertEqual(caught.exception.value, counted(p, power))

    def test_arguments_by_name(self):
        self.assertEqual(primes_of(power=1, p=3), [[0, 1], [1, 1], [2, 1]])

    def test_wrong_arguments(self):
        for p in wrong_primes():
            for power in [1, 60, 0, 61, None, True, "1", [1]]:
                assert_refused(self, InvalidPrime, p, primes_of, p, power)
            assert_refused(self, InvalidPrime, p, primes_of, power=2, p=p)
        for p in PRIMES:
            for power in wrong_powers():
                assert_refused(self, InvalidNumber, power, primes_of, p, power)
                assert_refused(self, InvalidNumber, power, primes_of, power=power, p=p)

    def test_told_lists_belong_to_the_caller(self):
        told = primes_of(3, 2)
        assert_no_list_twice(self, told)
        told[0].append(1)
        told[1][0] = 0
        told.pop()
        self.assertEqual(primes_of(3, 2), [[1, 0, 1], [2, 1, 1], [2, 2, 1]])


class FactorsTest(unittest.TestCase):
    def assert_factors(self, p, one):
        """The factors are prime, in order, each once, and their product is the polynomial: this leaves one answer."""
        kept = list(one)
        told = factors(p, one)
        self.assertEqual(one, kept)
        self.assertIs(type(told), list)
        self.assertEqual([prime for prime, _ in told], sorted(prime for prime, _ in told))
        self.assertEqual(len({tuple(prime) for prime, _ in told}), len(told))
        for found in told:
            self.assertIs(type(found), tuple)
            self.assertIs(type(found[1]), int)
            self.assertTrue(found[1] >= 1 and found[0][-1] == 1 and is_one_prime(p, found[0]), found)
        each = [prime for prime, times in told for _ in range(times)]
        self.assertEqual(product(p, [[one[-1]]] + each), one)
        assert_no_list_twice(self, told)

    def test_all_polynomials_of_low_powers(self):
        for p, most in [(3, 5), (5, 3), (7, 2), (11, 1), (13, 1)]:
            for power in range(0, most + 1):
                for one in monics(p, power):
                    for lead in range(1, p):
                        self.assert_factors(p, [number * lead % p for number in one])

    def test_powers_up_to_60(self):
        for p in PRIMES:
            for power in (12, 13, 31, 47, 59, 60):
                for seed in (1, 2):
                    self.assert_factors(p, spread(p, seed, power))

    def test_told_products(self):
        for p in PRIMES:
            low, other, bend, great = [0, 1], [p - 1, 1], primes_of(p, 2)[0], first_primes(p, 13, 1)[0]
            for each in [[(low, 60)], [(other, 60)], [(bend, 30)], [(bend, 2)], [(low, p), (bend, p)],
                         [(low, p - 1), (other, p), (bend, p + 1)], [(low, 1), (great, 2)], [(great, 4)],
                         [(low, 2), (other, 3), (great, 1)], [(low, 2 * p), (other, 2 * p + 1)]]:
                one = product(p, [prime for prime, times in each for _ in range(times)])
                for lead in (1, p - 1):
                    self.assertEqual(factors(p, [number * lead % p for number in one]), sorted(each))

    def test_powers_of_powers_of_p(self):
        for p, times in [(3, 9), (3, 10), (3, 27), (3, 28), (3, 54), (5, 25), (5, 50), (5, 30), (7, 49), (7, 56)]:
            one = product(p, [[1, 1]] * times)
            self.assertEqual(factors(p, one), [([1, 1], times)])
            self.assertEqual(factors(p, product(p, [one, [2, 1]])), [([1, 1], times), ([2, 1], 1)])

    def test_primes_of_great_powers(self):
        for p in PRIMES:
            for power in (13, 20):
                for one in first_primes(p, power, 1):
                    self.assertEqual(factors(p, one), [(one, 1)])

    def test_all_linear_primes_at_once(self):
        for p in PRIMES:
            one = product(p, [[number, 1] for number in range(p)])
            self.assertEqual(factors(p, one), [([number, 1], 1) for number in range(p)])

    def test_order_is_that_of_lists(self):
        one = product(5, [[1, 1], [0, 1], [2, 0, 1], [1, 1, 0, 1]])
        self.assertEqual(factors(5, one), [([0, 1], 1), ([1, 1], 1), ([1, 1, 0, 1], 1), ([2, 0, 1], 1)])

    def test_numbers_have_no_factors(self):
        for p in PRIMES:
            for number in range(1, p):
                self.assertEqual(factors(p, [number]), [])

    def test_arguments_by_name(self):
        self.assertEqual(factors(one=[0, 2], p=3), [([0, 1], 1)])

    def test_nought(self):
        for p in PRIMES:
            nought = []
            assert_refused(self, InvalidPolynomial, nought, factors, p, nought)

    def test_powers_above_60(self):
        for p in PRIMES:
            for power in (61, 62, 90):
                one = [0] * power + [1]
                assert_refused(self, InvalidPolynomial, one, factors, p, one)
            self.assertEqual(factors(p, [0] * 60 + [1]), [([0, 1], 60)])

    def test_wrong_arguments(self):
        for p in wrong_primes():
            for one in [[0, 1], [], None, True, [True], (0, 1), [0] * 61 + [1]]:
                assert_refused(self, InvalidPrime, p, factors, p, one)
            assert_refused(self, InvalidPrime, p, factors, one=[0, 1], p=p)
        for p in PRIMES:
            for one in wrong_polynomials(p):
                assert_refused(self, InvalidPolynomial, one, factors, p, one)
                assert_refused(self, InvalidPolynomial, one, factors, one=one, p=p)

    def test_told_lists_belong_to_the_caller(self):
        one = [0, 1]
        told = factors(3, one)
        self.assertIsNot(told[0][0], one)
        told[0][0].append(2)
        told.append(one)
        self.assertEqual(one, [0, 1])
        self.assertEqual(factors(3, one), [([0, 1], 1)])

    def test_changing_the_argument_afterwards(self):
        one = [0, 1]
        told = factors(3, one)
        one[0] = 2
        one.append(1)
        self.assertEqual(told, [([0, 1], 1)])

    def test_judged_values_stay(self):
        for value in ([1, 0, 1], [1, 0, 1, 0], [[1], [0, [1]]], [True]):
            kept = repr(value)
            is_prime(3, value)
            self.assertEqual(repr(value), kept)


if __name__ == "__main__":
    unittest.main()
