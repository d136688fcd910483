"""Promise [36]: the parts of functions. With [2]."""

import unittest

from curveheads.curves import Curve
from curveheads.errors import InvalidCurve, InvalidFunction, InvalidList
from curveheads.functions import Function, power_of, product_of, pth_root, sum_of
from curveheads.parts import of_parts, parts
from tests import reckoning
from tests.samples import (
    PRIMES, Stream, all_curves, assert_each_refused, assert_no_list_twice, assert_refused, curves_over, mixed_functions,
    nested, plain_functions, tops, wrong_curves, wrong_functions)
from tests.space_samples import functions_of_other_curves


def summed(curve, told):
    """The sum of the p-th powers of functions, each times the power of x that its place in the list tells."""
    p, f = curve.prime(), curve.polynomial()
    found = ([], [], [1])
    for at, one in enumerate(told):
        high = reckoning.function_taken(p, f, tops(one), p)
        found = reckoning.function_sum(p, found, reckoning.function_product(p, f, high, ([0] * at + [1], [], [1])))
    return found


def some_parts(curve, seed, many=3):
    """A list of p functions, some of them 0."""
    p, stream = curve.prime(), Stream(seed)
    told = mixed_functions(curve, seed, many, 2)
    nought = Function(curve, [], [], [1])
    return [told[stream.below(many)] if stream.below(3) else nought for _ in range(p)]


def wrong_part_lists(curve):
    """Values that are no lists of p functions on a curve."""
    p = curve.prime()
    one = Function(curve, [1], [], [1])
    good = [one] * p
    found = [None, True, 0, p, "", [], (), tuple(good), {}, {at: one for at in range(p)}, nested(30), one, curve,
             good[1:], good + [one], [good], [one], [[one]] * p, [None] * p, [0] * p, ["1"] * p, [(one,)] * p, [[]] * p,
             InvalidList(good)]
    for value in functions_of_other_curves(curve):
        found.extend([good[1:] + [value], [value] + good[1:]])
    return found


class PartsTest(unittest.TestCase):
    def test_they_sum_to_the_function(self):
        for at, curve in enumerate(all_curves()):
            for one in plain_functions(curve)[at % 3::3] + mixed_functions(curve, at, 1, 3):
                told = parts(one)
                self.assertIs(type(told), list)
                self.assertEqual(len(told), curve.prime())
                for part in told:
                    self.assertIs(type(part), Function)
                    self.assertEqual(part.curve(), curve)
                self.assertEqual(summed(curve, told), tops(one))

    def test_functions_that_are_made_of_parts(self):
        # There is just one list of parts, so a function that is made of some has these.
        for at, curve in enumerate(all_curves()):
            told = some_parts(curve, at)
            one = of_parts(curve, told)
            self.assertEqual(parts(one), told)
            if curve.prime() < 8:
                self.assertEqual(tops(one), summed(curve, told))

    def test_parts_put_together_again(self):
        for at, curve in enumerate(all_curves()):
            for one in plain_functions(curve) + mixed_functions(curve, at, 4, 6):
                self.assertEqual(of_parts(curve, parts(one)), one)

    def test_pth_powers(self):
        for at, curve in enumerate(all_curves()):
            p, nought = curve.prime(), Function(curve, [], [], [1])
            for one in plain_functions(curve) + mixed_functions(curve, at, 2, 3):
                self.assertEqual(parts(power_of(one, p)), [one] + [nought] * (p - 1))
                self.assertEqual(of_parts(curve, [one] + [nought] * (p - 1)), power_of(one, p))
                self.assertIs(any(bool(part) for part in parts(one)[1:]), pth_root(one) is None)

    def test_numbers_and_powers_of_x(self):
        for curve in all_curves():
            p, nought, number = curve.prime(), Function(curve, [], [], [1]), Function(curve, [1], [], [1])
            self.assertEqual(parts(nought), [nought] * p)
            for told in range(1, p):
                one = Function(curve, [told], [], [1])
                self.assertEqual(parts(one), [one] + [nought] * (p - 1))
            for power in (1, p - 1, p, p + 1, 2 * p - 1, 3 * p):
                one = Function(curve, [0] * power + [1], [], [1])
                wanted = [nought] * p
                wanted[power % p] = Function(curve, [0] * (power // p) + [1], [], [1])
                self.assertEqual(parts(one), wanted)
            wanted = [nought] * (p - 1) + [Function(curve, [1], [], [0, 1])]
            self.assertEqual(parts(Function(curve, [1], [], [0, 1])), wanted)
            self.assertEqual(of_parts(curve, wanted), Function(curve, [1], [], [0, 1]))
            self.assertEqual(of_parts(curve, [nought] * p), nought)
            self.assertEqual(of_parts(curve, [number] * p), Function(curve, [1] * p, [], [1]))

    def test_sums_and_products_with_pth_powers(self):
        for at, curve in enumerate(all_curves()):
            one, other = mixed_functions(curve, at, 2, 3)
            high = power_of(other, curve.prime())
            self.assertEqual(parts(sum_of(one, other)), [sum_of(*two) for two in zip(parts(one), parts(other))])
            self.assertEqual(parts(product_of(high, one)), [product_of(other, part) for part in parts(one)])

    def test_bottoms_that_share_factors(self):
        for curve in all_curves():
            p = curve.prime()
            bottoms = [[1], [0, 1], [1, 1], reckoning.times(p, [0, 1], [1, 1]), [0, 0, 1]]
            told = [Function(curve, [1] * (at + 1), [1], bottoms[at % 5]) for at in range(p)]
            self.assertEqual(parts(of_parts(curve, told)), told)


class ArgumentsTest(unittest.TestCase):
    def test_arguments_by_name(self):
        curve = Curve(5, [1, 1, 0, 1])
        x = Function(curve, [0, 1], [], [1])
        self.assertEqual(of_parts(functions=parts(one=x), curve=curve), x)

    def test_wrong_arguments(self):
        for curve in [one for p in PRIMES for one in curves_over(p)[p % 8::8]]:
            one = Function(curve, [1], [], [1])
            assert_each_refused(self, parts, {"one": one}, {"one": (InvalidFunction, wrong_functions())})
            assert_each_refused(self, of_parts, {"curve": curve, "functions": [one] * curve.prime()}, {
                "curve": (InvalidCurve, wrong_curves()), "functions": (InvalidList, wrong_part_lists(curve))})

    def test_lists_of_other_sizes(self):
        for curve in all_curves():
            one = Function(curve, [1], [], [1])
            for size in (0, 1, curve.prime() - 1, curve.prime() + 1, 2 * curve.prime()):
                told = [one] * size
                assert_refused(self, InvalidList, told, of_parts, curve, told)

    def test_arguments_stay_and_told_lists_belong_to_the_caller(self):
        for at, curve in enumerate(all_curves()[::3]):
            one = mixed_functions(curve, at, 1, 3)[0]
            kept = repr(tops(one))
            told = parts(one)
            first = list(told)
            assert_no_list_twice(self, told)
            made = of_parts(curve, told)
            self.assertEqual(told, first)
            told.reverse()
            told.append(None)
            self.assertEqual(parts(one), first)
            self.assertEqual(made, one)
            self.assertEqual(repr(tops(one)), kept)

    def test_a_changed_list_is_read_anew(self):
        for at, curve in enumerate(all_curves()[::4]):
            told = some_parts(curve, at)
            first = of_parts(curve, told)
            told[0] = sum_of(told[0], Function(curve, [1], [], [1]))
            self.assertEqual(of_parts(curve, told), sum_of(first, Function(curve, [1], [], [1])))
            told.pop()
            assert_refused(self, InvalidList, told, of_parts, curve, told)


if __name__ == "__main__":
    unittest.main()
