"""Promise [23]: functions that a bundle lets. With [2]."""

import unittest

from curveheads.curves import Curve
from curveheads.errors import InvalidBundle, InvalidCurve, InvalidFunction
from curveheads.functions import Function, far_order, lead, product_of, quotient_of, sum_of
from curveheads.reduced import least_two, lets, near_parts, nearly_lets, two_fars
from tests import reckoning
from tests.bundle_samples import plain_and_turned, wrong_bundles
from tests.place_samples import low_places
from tests.samples import (
    PRIMES, Stream, all_curves, assert_each_refused, assert_no_list_twice, curves_over, lists_within,
    mixed_functions, plain_functions, tops, wrong_curves)
from tests.space_samples import degree_of, functions_of_other_curves, is_let, near_orders_are_let, samples


def summed(curve, pair, a, b):
    """The sum of multiples of two functions by two polynomials."""
    times = [product_of(Function(curve, one, [], [1]), part) for one, part in zip((a, b), pair)]
    return sum_of(*times)


class LetsTest(unittest.TestCase):
    def test_functions_by_their_orders(self):
        many = {(True, True): 0, (False, True): 0, (False, False): 0}
        for curve in all_curves():
            for at, bundle in enumerate(samples(curve, 1, 1)[::3]):
                pair = least_two(curve, bundle)
                for one in plain_functions(curve)[at % 3::3] + mixed_functions(curve, at, 1, 2) + [*pair]:
                    near = not one or near_orders_are_let(curve, bundle, one)
                    everywhere = is_let(curve, bundle, one)
                    self.assertIs(nearly_lets(curve, bundle, one), near)
                    self.assertIs(lets(curve, bundle, one), everywhere)
                    many[everywhere, near] += 1
        self.assertGreater(min(many.values()), 100)

    def test_nought_and_numbers(self):
        for curve in all_curves()[::2]:
            one, other = plain_and_turned(curve)
            nought, number = Function(curve, [], [], [1]), Function(curve, [curve.prime() - 1], [], [1])
            for bundle in samples(curve, 2, 1)[::2]:
                self.assertIs(lets(curve, bundle, nought), True)
                self.assertIs(nearly_lets(curve, bundle, nought), True)
            for bundle, near, everywhere in [
                    ([], True, True), ([((), -1)], True, False), ([((), 1)], True, True), ([(one, 1)], True, True),
                    ([((), -1), (one, 2)], True, False), ([(one, -1)], False, False), ([((), 3), (other, -1)], False, False)]:
                self.assertIs(nearly_lets(curve, bundle, number), near)
                self.assertIs(lets(curve, bundle, number), everywhere)

    def test_poles_and_zeros(self):
        for curve in all_curves()[::2]:
            p, f = curve.prime(), curve.polynomial()
            (q, w), other = plain_and_turned(curve)
            root = reckoning.less(p, [], reckoning.lifted(p, f, (q, w), 3))
            # It has a zero of at least the order 3 at the one place and none at the other.
            zero = Function(curve, root, [1], [1])
            order = reckoning.order(p, f, tops(zero), (q, w))
            for number in range(-order - 2, 3):
                told = [((q, w), number)] if number else []
                self.assertIs(nearly_lets(curve, told, zero), number >= -order)
                below = Function(curve, root, [1], q)
                self.assertIs(nearly_lets(curve, sorted(told + [(other, 1)]), below), number >= 1 - order)
                self.assertIs(nearly_lets(curve, told, below), False)
            far = far_order(zero)
            for number in (far - 1, far, far + 1):
                self.assertIs(lets(curve, [((), number)], zero), number >= far)


class LeastTwoTest(unittest.TestCase):
    def test_the_two(self):
        for curve in all_curves():
            for bundle in samples(curve, 3):
                self.assert_least_two(curve, bundle)

    def assert_least_two(self, curve, bundle):
        """What [23] says of the two: by their far orders they are a basis, as no others sum to less."""
        p = curve.prime()
        told = least_two(curve, bundle)
        self.assertIs(type(told), tuple)
        even, odd = told
        fars = two_fars(curve, bundle)
        self.assertEqual(fars, (far_order(even), far_order(odd)))
        self.assertEqual([far % 2 for far in fars], [0, 1])
        self.assertEqual((lead(even), lead(odd)), (1, 1))
        near = [(place, number) for place, number in bundle if place]
        self.assertEqual(sum(fars), len(curve.polynomial()) - 1 - 2 * degree_of(near))
        for one in told:
            self.assertTrue(near_orders_are_let(curve, bundle, one))
        # Written with one bottom.
        tops_of = [[reckoning.times(p, part, other.bottom()) for part in tops(one)[:2]]
                   for one, other in ((even, odd), (odd, even))]
        if fars[0] < fars[1]:
            self.assertLess(len(tops_of[1][0]), len(tops_of[0][0]))
        else:
            self.assertLess(len(tops_of[0][1]), len(tops_of[1][1]))

    def test_both_orders_of_the_two_are_among_these(self):
        for p in PRIMES:
            told = {fars[0] < fars[1] for curve in curves_over(p) for fars in [
                two_fars(curve, bundle) for bundle in samples(curve, 3)]}
            self.assertEqual(told, {True, False})

    def test_the_far_number_does_not_matter(self):
        for curve in all_curves()[::3]:
            for bundle in samples(curve, 4, 1)[::2]:
                near = [(place, number) for place, number in bundle if place]
                self.assertEqual(least_two(curve, bundle), least_two(curve, near))
                self.assertEqual(two_fars(curve, bundle), two_fars(curve, near))

    def test_no_near_places(self):
        for curve in all_curves():
            number, y = Function(curve, [1], [], [1]), Function(curve, [], [1], [1])
            for bundle in ([], [((), 5)], [((), -30)]):
                self.assertEqual(least_two(curve, bundle), (number, y))
                self.assertEqual(two_fars(curve, bundle), (0, len(curve.polynomial()) - 1))

    def test_bundles_of_polynomials(self):
        for curve in all_curves()[::2]:
            one, other = plain_and_turned(curve)
            wide = [place for place in low_places(curve) if place[1] is None][0]
            for bundle, q in [([(one, 2), (other, 2)], reckoning.times(curve.prime(), one[0], one[0])),
                              ([(wide, 1)], wide[0])]:
                self.assertEqual(least_two(curve, bundle), (Function(curve, [1], [], q), Function(curve, [], [1], q)))

    def test_far_orders_of_sums(self):
        for curve in all_curves()[::2]:
            p, stream = curve.prime(), Stream(5)
            for bundle in samples(curve, 5, 1)[::3]:
                pair, fars = least_two(curve, bundle), two_fars(curve, bundle)
                for _ in range(3):
                    a, b = stream.polynomial(p, 4), stream.polynomial(p, 4)
                    ends = [2 * len(a) - 2 + fars[0]] * bool(a) + [2 * len(b) - 2 + fars[1]] * bool(b)
                    one = summed(curve, pair, a, b)
                    self.assertEqual(bool(one), bool(ends))
                    if ends:
                        self.assertEqual(far_order(one), max(ends))


class NearPartsTest(unittest.TestCase):
    def test_sums_of_multiples(self):
        for curve in all_curves():
            p, stream = curve.prime(), Stream(6)
            for bundle in samples(curve, 6, 1)[::2]:
                pair = least_two(curve, bundle)
                for _ in range(3):
                    a, b = stream.polynomial(p, 3), stream.polynomial(p, 3)
                    one = summed(curve, pair, a, b)
                    told = near_parts(curve, bundle, one)
                    self.assertEqual(told, (a, b))
                    self.assertIs(type(told), tuple)
                    self.assertIs(nearly_lets(curve, bundle, one), True)

    def test_functions_that_are_let_or_not(self):
        many = [0, 0]
        for curve in all_curves():
            for at, bundle in enumerate(samples(curve, 7, 1)[::2]):
                pair = least_two(curve, bundle)
                x_under = Function(curve, [1], [], [0, 1])
                for one in [*plain_functions(curve)[at % 2::2], *mixed_functions(curve, at, 1, 2),
                            product_of(pair[at % 2], x_under), quotient_of(*pair)]:
                    told = near_parts(curve, bundle, one)
                    self.assertIs(told is not None, not one or near_orders_are_let(curve, bundle, one))
                    many[told is not None] += 1
                    if told is not None:
                        self.assertEqual(summed(curve, pair, *told), one)
        self.assertGreater(min(many), 500)

    def test_nought(self):
        for curve in all_curves()[::3]:
            for bundle in samples(curve, 8, 1)[::3]:
                self.assertEqual(near_parts(curve, bundle, Function(curve, [], [], [1])), ([], []))
                even, odd = least_two(curve, bundle)
                self.assertEqual(near_parts(curve, bundle, even), ([1], []))
                self.assertEqual(near_parts(curve, bundle, odd), ([], [1]))

    def test_arguments_by_name(self):
        five = Curve(5, [1, 1, 0, 1])
        pole, slant = [(([0, 1], [1]), 1)], Function(five, [1], [1], [0, 1])
        self.assertIs(lets(function=slant, bundle=pole, curve=five), False)
        self.assertIs(nearly_lets(function=slant, bundle=pole, curve=five), True)
        self.assertEqual(least_two(bundle=pole, curve=five)[1], slant)
        self.assertEqual(two_fars(bundle=pole, curve=five), (0, 1))
        self.assertEqual(near_parts(function=slant, bundle=pole, curve=five), ([], [1]))

    def test_wrong_arguments(self):
        for curve in [one for p in PRIMES for one in curves_over(p)[p % 8::8]]:
            curves, bad = (InvalidCurve, wrong_curves()), (InvalidBundle, wrong_bundles(curve))
            good = {"curve": curve, "bundle": [((), 1)]}
            wrong = {"curve": curves, "bundle": bad}
            for call in (least_two, two_fars):
                assert_each_refused(self, call, good, wrong)
            wrong["function"] = (InvalidFunction, functions_of_other_curves(curve))
            for call in (lets, nearly_lets, near_parts):
                for one in plain_functions(curve)[:2]:
                    assert_each_refused(self, call, {**good, "function": one}, wrong)

    def test_arguments_stay_and_told_lists_belong_to_the_caller(self):
        for curve in [one for p in PRIMES for one in curves_over(p)[::3]]:
            for bundle in samples(curve, 9, 1)[::3]:
                one = least_two(curve, bundle)[0]
                kept = repr((bundle, tops(one)))
                told = near_parts(curve, bundle, one)
                first = repr(told)
                assert_no_list_twice(self, [bundle, told])
                for part in lists_within(told):
                    part.append(1)
                self.assertEqual(repr(near_parts(curve, bundle, one)), first)
                self.assertEqual(least_two(curve, bundle), least_two(curve, bundle))
                for call in (lets, nearly_lets):
                    self.assertEqual(call(curve, bundle, one), call(curve, bundle, one))
                self.assertEqual(repr((bundle, tops(one))), kept)

    def test_a_changed_list_is_read_anew(self):
        for curve in all_curves()[::4]:
            (q, w), other = plain_and_turned(curve)
            bundle = [((q, w), 1)]
            first = least_two(curve, bundle)
            bundle[0] = (other, 1)
            self.assertEqual(near_parts(curve, bundle, first[1]), None)
            self.assertNotEqual(least_two(curve, bundle), first)
            bundle.insert(0, ((), 4))
            self.assertEqual(two_fars(curve, bundle), two_fars(curve, bundle[1:]))
            bundle[1] = ((q, w), 1)
            self.assertEqual(least_two(curve, bundle), first)


if __name__ == "__main__":
    unittest.main()
