"""Promises [8] to [10]: functions, how to reckon with them, and their norms and traces. With [2] for all of these."""

import unittest

from curveheads.curves import Curve
from curveheads.errors import InvalidCurve, InvalidFunction, InvalidNumber, InvalidPolynomial, Unlike
from curveheads.functions import (
    Function, less_of, norm, power_of, product_of, quotient_of, sum_of, trace, turned)
from tests import reckoning
from tests.samples import (
    PRIMES, Stream, all_curves, assert_each_refused, assert_no_list_twice, assert_refused, curves_over, mixed_functions,
    never_whole, plain_functions, product, tops, trimmed, wrong_curves, wrong_functions, wrong_polynomials)

OF_TWO = (sum_of, less_of, product_of, quotient_of)
OF_ONE = (turned, norm, trace)


def samples(curve, seed, many=5, most=4):
    return plain_functions(curve) + mixed_functions(curve, seed, many, most)


class FunctionTest(unittest.TestCase):
    def assert_least_form(self, curve, *told):
        one = Function(curve, *told)
        self.assertEqual(tops(one), reckoning.least(curve.prime(), told))
        for polynomial in tops(one):
            self.assertIs(type(polynomial), list)
        self.assertEqual(one.curve(), curve)
        self.assertIs(type(one.curve()), Curve)

    def test_least_form(self):
        for curve in all_curves():
            p, stream = curve.prime(), Stream(1)
            for at in range(12):
                told = [stream.polynomial(p, 4), stream.polynomial(p, 4), stream.full_polynomial(p, at % 4)]
                self.assert_least_form(curve, *told)
                shared = stream.full_polynomial(p, at % 5)
                self.assert_least_form(curve, *[trimmed(product(p, [shared, one])) for one in told])

    def test_factors_of_two_of_the_three_stay(self):
        for p in PRIMES:
            curve, low, other = Curve(p, [1, 1, 0, 1]), [0, 1], [1, 1]
            both = product(p, [low, other])
            for told in [(low, low, other), (low, other, low), (other, low, low), (both, low, other), (both, both, [1]),
                         ([], both, [1]), ([1], both, both)]:
                self.assertEqual(tops(Function(curve, *told)), told)
            self.assertEqual(tops(Function(curve, both, low, product(p, [low, low]))), (other, [1], low))
            self.assertEqual(tops(Function(curve, [], both, low)), ([], other, [1]))
            self.assertEqual(tops(Function(curve, both, [], low)), (other, [], [1]))
            self.assertEqual(tops(Function(curve, low, [], both)), ([1], [], other))

    def test_f_is_not_taken_out_with_y(self):
        for curve in all_curves():
            f = curve.polynomial()
            self.assertEqual(tops(Function(curve, f, [1], f)), (f, [1], f))

    def test_numbers_are_divided_by_the_leading_one(self):
        for p in PRIMES:
            curve = Curve(p, [2, 1])
            for number in range(1, p):
                self.assertEqual(tops(Function(curve, [number], [], [number])), ([1], [], [1]))
                self.assertEqual(tops(Function(curve, [number], [0, number], [0, 0, number])), ([1], [0, 1], [0, 0, 1]))
                self.assertEqual(tops(Function(curve, [number], [], [1])), ([number], [], [1]))

    def test_nought_has_one_form(self):
        for curve in all_curves():
            for bottom in ([1], [2], [0, 1], [1, 1, 2], curve.polynomial(), [0] * 60 + [2]):
                self.assertEqual(tops(Function(curve, [], [], bottom)), ([], [], [1]))

    def test_powers_of_60_and_61(self):
        for p in PRIMES:
            curve = Curve(p, [0, p - 1, 0, 1])
            high, higher = [1] + [0] * 59 + [1], [1] + [0] * 60 + [1]
            self.assertEqual(tops(Function(curve, high, [0, 1], [1])), (high, [0, 1], [1]))
            self.assertEqual(tops(Function(curve, [0, 1], high, [1])), ([0, 1], high, [1]))
            self.assertEqual(tops(Function(curve, [0, 1], [0, 1], high)), ([0, 1], [0, 1], high))
            assert_refused(self, InvalidPolynomial, higher, Function, curve, higher, [0, 1], [1])
            assert_refused(self, InvalidPolynomial, higher, Function, curve, [0, 1], higher, [1])
            assert_refused(self, InvalidPolynomial, higher, Function, curve, [0, 1], [0, 1], higher)
            assert_refused(self, InvalidPolynomial, higher, Function, curve, higher, list(higher), list(higher))

    def test_what_a_function_returned_is_refused_too(self):
        for p in PRIMES:
            curve = Curve(p, [0, p - 1, 0, 1])
            one = Function(curve, [1] + [0] * 59 + [1], [0] * 58 + [1], [1])
            for polynomial in [product_of(one, one).top(), product_of(one, one).side(), norm(one).top()]:
                self.assertGreater(len(polynomial), 61)
                assert_refused(self, InvalidPolynomial, polynomial, Function, curve, polynomial, [], [1])

    def test_arguments_by_name(self):
        one = Function(bottom=[0, 0, 2], side=[0, 4], top=[0, 2], curve=Curve(5, [1, 1, 0, 1]))
        self.assertEqual(tops(one), ([1], [2], [0, 1]))

    def test_equality(self):
        for p in PRIMES:
            curve = Curve(p, [0, p - 1, 0, 1])
            one = Function(curve, [0, 1], [1], [1, 1])
            for same in [Function(curve, [0, 1], [1], [1, 1]), Function(Curve(p, [0, p - 1, 0, 1]), [0, 1], [1], [1, 1]),
                         Function(curve, [0, 0, 2], [0, 2], [0, 2, 2])]:
                self.assertIs(one == same, True)
                self.assertIs(one != same, False)
            for other in [Function(curve, [0, 1], [1], [2, 1]), Function(curve, [0, 1], [2], [1, 1]),
                          Function(curve, [0, 2], [1], [1, 1]), Function(Curve(p, [1, 1]), [0, 1], [1], [1, 1]),
                          Function(Curve(p + 2 if p < 7 else 3, [0, 2, 0, 1]), [0, 1], [1], [1, 1])]:
                self.assertIs(one == other, False)
                self.assertIs(one != other, True)

    def test_different_least_forms_are_different_functions(self):
        for curve in all_curves():
            told = samples(curve, 2)
            for one in told:
                for other in told:
                    self.assertIs(one == other, tops(one) == tops(other))

    def test_equal_to_nothing_else(self):
        curve = Curve(3, [0, 1])
        for one in (Function(curve, [], [], [1]), Function(curve, [1], [], [1]), Function(curve, [0, 1], [], [1])):
            for other in wrong_functions() + [1.0]:
                for told in (one == other, other == one):
                    self.assertIs(told, False)
                self.assertIs(one != other, True)

    def test_only_nought_is_false(self):
        for curve in all_curves():
            for one in samples(curve, 3):
                self.assertIs(bool(one), one.top() != [] or one.side() != [])
            self.assertIs(bool(Function(curve, [], [], [0, 1])), False)
            self.assertIs(bool(Function(curve, [], [1], [1])), True)

    def test_wrong_arguments(self):
        for p in PRIMES:
            good = {"curve": Curve(p, [0, p - 1, 0, 1]), "top": [1, 1], "side": [0, 1], "bottom": [2, 1]}
            bad = wrong_polynomials(p) + [[1] * 62, [0, 0, True], [1, 0]]
            wrong = {"curve": (InvalidCurve, wrong_curves()), "top": (InvalidPolynomial, bad),
                     "side": (InvalidPolynomial, bad), "bottom": (InvalidPolynomial, [[]] + bad)}
            assert_each_refused(self, Function, good, wrong)

    def test_nought_is_let_but_at_the_bottom(self):
        curve, nought = Curve(5, [1, 1]), []
        self.assertEqual(tops(Function(curve, [], [1], [1])), ([], [1], [1]))
        self.assertEqual(tops(Function(curve, [1], [], [1])), ([1], [], [1]))
        assert_refused(self, InvalidPolynomial, nought, Function, curve, [1], [1], nought)
        assert_refused(self, InvalidPolynomial, nought, Function, curve, [], [], nought)

    def test_numbers_of_a_greater_prime_are_refused(self):
        for p, greater in zip(PRIMES, PRIMES[1:]):
            for number in range(p, greater):
                wrong = [1, number, 1]
                assert_refused(self, InvalidPolynomial, wrong, Function, Curve(p, [1, 1]), wrong, [], [1])
                self.assertEqual(Function(Curve(greater, [1, 1]), wrong, [], [1]).top(), wrong)

    def test_arguments_stay_and_may_change_afterwards(self):
        for told in [([0, 1], [1, 2], [2, 1]), ([0, 2], [0, 4], [0, 0, 2]), ([], [1], [1]), ([], [], [3, 1])]:
            handed = [list(one) for one in told]
            one = Function(Curve(5, [1, 1, 0, 1]), *handed)
            self.assertEqual(handed, [list(one) for one in told])
            kept = tops(one)
            for polynomial in handed:
                polynomial[:] = [3, 3, 3]
            self.assertEqual(tops(one), kept)

    def test_told_lists_belong_to_the_caller(self):
        one = Function(Curve(5, [1, 1, 0, 1]), [0, 1], [1, 2], [2, 1])
        same = Function(Curve(5, [1, 1, 0, 1]), [0, 1], [1, 2], [2, 1])
        for _ in range(2):
            for polynomial in tops(one) + (one.curve().polynomial(),):
                polynomial[0] = 4
                polynomial.append(2)
        self.assertEqual(one, same)
        self.assertEqual(tops(one), ([0, 1], [1, 2], [2, 1]))
        assert_no_list_twice(self, [tops(one), tops(one)])


class TwoFunctionsTest(unittest.TestCase):
    def assert_told(self, told, curve, expected):
        self.assertIs(type(told), Function)
        self.assertEqual(told.curve(), curve)
        self.assertEqual(tops(told), expected)

    def test_sums_products_and_quotients(self):
        for curve in all_curves():
            p, f = curve.prime(), curve.polynomial()
            told = samples(curve, 4)
            for at, one in enumerate(told):
                for other in told[at % 2::2] + [one]:
                    left, right = tops(one), tops(other)
                    self.assert_told(sum_of(one, other), curve, reckoning.function_sum(p, left, right))
                    self.assert_told(less_of(one, other), curve, reckoning.function_less(p, left, right))
                    self.assert_told(product_of(one, other), curve, reckoning.function_product(p, f, left, right))
                    if other:
                        over = reckoning.function_over(p, f, right)
                        expected = reckoning.function_product(p, f, left, over)
                        self.assert_told(quotient_of(one, other), curve, expected)

    def test_they_undo_one_another(self):
        for curve in all_curves():
            told = samples(curve, 5, 3, 5)
            for one in told:
                for other in told[::3]:
                    self.assertEqual(less_of(sum_of(one, other), other), one)
                    self.assertEqual(sum_of(less_of(one, other), other), one)
                    if other:
                        self.assertEqual(quotient_of(product_of(one, other), other), one)
                        self.assertEqual(product_of(quotient_of(one, other), other), one)

    def test_sums_and_products_are_distributive(self):
        for curve in all_curves():
            one, two, three = mixed_functions(curve, 6, 3, 4)
            self.assertEqual(product_of(one, sum_of(two, three)), sum_of(product_of(one, two), product_of(one, three)))
            self.assertEqual(product_of(one, product_of(two, three)), product_of(product_of(one, two), three))
            self.assertEqual(sum_of(one, sum_of(two, three)), sum_of(sum_of(one, two), three))
            self.assertEqual(sum_of(one, two), sum_of(two, one))
            self.assertEqual(product_of(one, two), product_of(two, one))

    def test_a_function_with_itself(self):
        for curve in all_curves():
            nought, number = Function(curve, [], [], [1]), Function(curve, [1], [], [1])
            for one in samples(curve, 7):
                self.assertEqual(less_of(one, one), nought)
                self.assertEqual(sum_of(one, one), product_of(Function(curve, [2], [], [1]), one))
                self.assertEqual(product_of(one, one), power_of(one, 2))
                if one:
                    self.assertEqual(quotient_of(one, one), number)

    def test_nought_and_1(self):
        for curve in all_curves():
            nought, number = Function(curve, [], [], [1]), Function(curve, [1], [], [1])
            for one in samples(curve, 8):
                self.assertEqual(sum_of(one, nought), one)
                self.assertEqual(sum_of(nought, one), one)
                self.assertEqual(less_of(one, nought), one)
                self.assertEqual(sum_of(less_of(nought, one), one), nought)
                self.assertEqual(product_of(one, nought), nought)
                self.assertEqual(product_of(number, one), one)
                self.assertEqual(quotient_of(one, number), one)
                if one:
                    self.assertEqual(quotient_of(nought, one), nought)

    def test_y_times_y_is_f(self):
        for curve in all_curves():
            y = Function(curve, [], [1], [1])
            self.assertEqual(tops(product_of(y, y)), (curve.polynomial(), [], [1]))
            self.assertEqual(tops(quotient_of(Function(curve, [1], [], [1]), y)), ([], [1], curve.polynomial()))

    def test_what_is_returned_may_be_larger(self):
        for curve in curves_over(3) + curves_over(13):
            p, f = curve.prime(), curve.polynomial()
            one, other = mixed_functions(curve, 9, 2, 1)
            high = Function(curve, [1, 1] + [0] * 58 + [1], [0] * 60 + [1], [2, 1])
            square = product_of(high, high)
            self.assertGreater(len(square.top()), 61)
            for small in (one, other):
                self.assert_told(
                    sum_of(square, small), curve, reckoning.function_sum(p, tops(square), tops(small)))
                self.assert_told(
                    product_of(small, square), curve, reckoning.function_product(p, f, tops(small), tops(square)))
            self.assertEqual(quotient_of(square, high), high)

    def test_equal_curves_count_as_the_same(self):
        for p in PRIMES:
            one = Function(Curve(p, [0, p - 1, 0, 1]), [0, 1], [1], [1])
            other = Function(Curve(p, [0, p - 1, 0, 1]), [1], [0, 1], [1, 1])
            same = Function(one.curve(), [1], [0, 1], [1, 1])
            for call in OF_TWO:
                self.assertEqual(call(one, other), call(one, same))

    def test_arguments_by_name(self):
        for call in OF_TWO:
            one, other = mixed_functions(Curve(5, [1, 1, 0, 1]), 10, 2, 3)
            self.assertEqual(call(other=other, one=one), call(one, other))

    def test_functions_of_two_curves(self):
        curve = Curve(5, [1, 1, 0, 1])
        elsewhere = [Curve(5, [1, 2, 0, 1]), Curve(7, [1, 1, 0, 1]), Curve(5, [1, 1])]
        for call in OF_TWO:
            for one in plain_functions(curve):
                for another in elsewhere:
                    for other in plain_functions(another)[1:]:
                        assert_refused(self, Unlike, other, call, one, other)
                        assert_refused(self, Unlike, other, call, other=other, one=one)
        for call in OF_TWO[:3]:
            other = Function(elsewhere[0], [], [], [1])
            assert_refused(self, Unlike, other, call, Function(curve, [1], [], [1]), other)

    def test_wrong_arguments(self):
        curve = Curve(5, [1, 1, 0, 1])
        good = {"one": Function(curve, [0, 1], [1], [1]), "other": Function(curve, [1], [2], [1, 1])}
        for call in OF_TWO:
            wrong = {"one": (InvalidFunction, wrong_functions()), "other": (InvalidFunction, wrong_functions())}
            assert_each_refused(self, call, good, wrong)
            elsewhere = Function(Curve(7, [1, 1]), [1], [], [1])
            for one in wrong_functions():
                assert_refused(self, InvalidFunction, one, call, one, elsewhere)
                assert_refused(self, InvalidFunction, one, call, elsewhere, one)

    def test_quotients_by_nought(self):
        for curve in all_curves():
            for one in plain_functions(curve) + [Function(Curve(5, [4, 1]), [1], [1], [1])]:
                for nought in (Function(curve, [], [], [1]), Function(curve, [], [], [0, 1])):
                    assert_refused(self, InvalidFunction, nought, quotient_of, one, nought)
            for one in wrong_functions():
                assert_refused(self, InvalidFunction, one, quotient_of, one, Function(curve, [], [], [1]))

    def test_arguments_stay(self):
        for curve in curves_over(5):
            one, other = mixed_functions(curve, 11, 2, 3)
            kept = tops(one), tops(other)
            for call in OF_TWO:
                first = call(one, other)
                for polynomial in tops(first):
                    polynomial.append(1)
                self.assertEqual(call(one, other), first)
                self.assertEqual((tops(one), tops(other)), kept)


class PowerTest(unittest.TestCase):
    def test_low_exponents(self):
        for curve in all_curves():
            p, f = curve.prime(), curve.polynomial()
            for one in samples(curve, 12, 3, 3):
                for exponent in range(-4, 5):
                    if one or exponent >= 0:
                        told = power_of(one, exponent)
                        self.assertIs(type(told), Function)
                        self.assertEqual(tops(told), reckoning.function_taken(p, f, tops(one), exponent))

    def test_all_exponents(self):
        for p in PRIMES:
            for curve in curves_over(p)[1::2]:
                for one in [*mixed_functions(curve, 13, 1, 1), Function(curve, [1], [2], [1]),
                            Function(curve, [], [1], [0, 1])]:
                    told, over = Function(curve, [1], [], [1]), Function(curve, [1], [], [1])
                    for exponent in range(21):
                        self.assertEqual(power_of(one, exponent), told)
                        self.assertEqual(power_of(one, -exponent), over)
                        told, over = product_of(told, one), quotient_of(over, one)

    def test_exponents_add_up(self):
        for curve in all_curves():
            one = Function(curve, [1, 2], [1], [0, 1])
            for left in (-9, -1, 0, 4):
                for right in (-3, 0, 2, 7):
                    self.assertEqual(product_of(power_of(one, left), power_of(one, right)), power_of(one, left + right))

    def test_nought(self):
        for curve in all_curves():
            nought = Function(curve, [], [], [0, 1])
            self.assertEqual(tops(power_of(nought, 0)), ([1], [], [1]))
            for exponent in (1, 2, 19, 20):
                self.assertEqual(tops(power_of(nought, exponent)), ([], [], [1]))
            for exponent in (-1, -2, -19, -20):
                assert_refused(self, InvalidFunction, nought, power_of, nought, exponent)

    def test_1_and_the_other_numbers(self):
        for p in PRIMES:
            curve = Curve(p, [0, 1])
            for number in range(1, p):
                for exponent in range(-20, 21):
                    told = power_of(Function(curve, [number], [], [1]), exponent)
                    self.assertEqual(tops(told), ([pow(number, exponent, p)], [], [1]))

    def test_arguments_by_name(self):
        one = Function(Curve(5, [1, 1, 0, 1]), [0, 1], [1], [1])
        self.assertEqual(power_of(exponent=-3, function=one), power_of(one, -3))

    def test_wrong_arguments(self):
        exponents = never_whole() + [21, -21, 22, -22, 400, 10 ** 29, -10 ** 29]
        wrong = {"function": (InvalidFunction, wrong_functions()), "exponent": (InvalidNumber, exponents)}
        for one in plain_functions(Curve(5, [1, 1, 0, 1])):
            assert_each_refused(self, power_of, {"function": one, "exponent": 2}, wrong)


class NormTest(unittest.TestCase):
    def test_turned_norm_and_trace(self):
        for curve in all_curves():
            p, f = curve.prime(), curve.polynomial()
            for one in samples(curve, 14, 8, 4):
                top, side, bottom = tops(one)
                self.assertEqual(tops(turned(one)), (top, reckoning.less(p, [], side), bottom))
                square = reckoning.times(p, bottom, bottom)
                above = reckoning.norm_top(p, f, (top, side))
                self.assertEqual(tops(norm(one)), reckoning.least(p, (above, [], square)))
                self.assertEqual(tops(trace(one)), reckoning.least(p, (reckoning.times(p, [2], top), [], bottom)))
                for call in OF_ONE:
                    self.assertIs(type(call(one)), Function)
                    self.assertEqual(call(one).curve(), curve)

    def test_norm_and_trace_are_without_y(self):
        for curve in all_curves():
            for one in samples(curve, 15):
                self.assertEqual((norm(one).side(), trace(one).side()), ([], []))
                self.assertEqual(norm(one), product_of(one, turned(one)))
                self.assertEqual(trace(one), sum_of(one, turned(one)))

    def test_norms_multiply_and_traces_add_up(self):
        for curve in all_curves():
            told = samples(curve, 16, 3)
            for one in told:
                for other in told[::2]:
                    self.assertEqual(norm(product_of(one, other)), product_of(norm(one), norm(other)))
                    self.assertEqual(trace(sum_of(one, other)), sum_of(trace(one), trace(other)))
                    self.assertEqual(turned(product_of(one, other)), product_of(turned(one), turned(other)))
                    self.assertEqual(turned(sum_of(one, other)), sum_of(turned(one), turned(other)))

    def test_the_norm_is_nought_for_nought_alone(self):
        for curve in all_curves():
            for one in samples(curve, 17):
                self.assertIs(bool(norm(one)), bool(one))

    def test_each_function_solves_its_equation(self):
        for curve in all_curves():
            for one in samples(curve, 18):
                told = sum_of(less_of(product_of(one, one), product_of(trace(one), one)), norm(one))
                self.assertEqual(tops(told), ([], [], [1]))

    def test_turned_twice(self):
        for curve in all_curves():
            y = Function(curve, [], [1], [1])
            self.assertEqual(tops(turned(y)), ([], [curve.prime() - 1], [1]))
            for one in samples(curve, 19):
                self.assertEqual(turned(turned(one)), one)
                self.assertIs(turned(one) == one, one.side() == [])

    def test_arguments_by_name(self):
        one = Function(Curve(5, [1, 1, 0, 1]), [0, 1], [1], [1])
        for call in OF_ONE:
            self.assertEqual(call(function=one), call(one))

    def test_wrong_arguments(self):
        one = Function(Curve(5, [1, 1, 0, 1]), [0, 1], [1], [1])
        for call in OF_ONE:
            assert_each_refused(self, call, {"function": one}, {"function": (InvalidFunction, wrong_functions())})

    def test_arguments_stay(self):
        one = Function(Curve(5, [1, 1, 0, 1]), [0, 1], [1], [2, 1])
        for call in OF_ONE:
            first = call(one)
            for polynomial in tops(first) + tops(one):
                polynomial.append(1)
            self.assertEqual(call(one), first)
            self.assertEqual(tops(one), ([0, 1], [1], [2, 1]))


if __name__ == "__main__":
    unittest.main()
