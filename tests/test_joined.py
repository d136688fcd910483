"""Promise [22]: joined bundles. With [2]."""

import unittest

from curveheads.bundles import bundle_degree, bundle_of, bundle_sum, bundle_times
from curveheads.curves import Curve
from curveheads.errors import InvalidBundle, InvalidCurve
from curveheads.forms import form_bundle, is_form
from curveheads.functions import Function, norm, power_of, product_of, quotient_of, sum_of
from curveheads.joined import is_joining, is_of_function, joining, least_form
from curveheads.places import places_of
from tests import reckoning
from tests.bundle_samples import mixed_bundles, plain_and_turned, some_bundles, wrong_bundles
from tests.place_samples import plain_place, wide_place
from tests.samples import (
    PRIMES, Stream, all_curves, assert_each_refused, assert_no_list_twice, curves_over, lists_within, nested,
    plain_functions, tops, wrong_curves, wrong_functions)


def samples(curve, seed, many=3):
    return some_bundles(curve) + mixed_bundles(curve, seed, many)


def low_functions(curve, seed, many):
    """Functions whose norms have no prime factors of a power above 12, none of them a number."""
    p, stream = curve.prime(), Stream(seed)
    found = [Function(curve, [0, 1], [], [1]), Function(curve, [], [1], [1]), Function(curve, [1], [1], [0, 1])]
    for at in range(many):
        found.append(Function(curve, stream.full_polynomial(p, at % 4), [1], stream.full_polynomial(p, at % 3)))
    return [one for one in found if len(norm(one).top()) < 14]


class LeastFormTest(unittest.TestCase):
    def assert_least(self, curve, bundle):
        told = least_form(curve, bundle)
        self.assertIs(type(told), tuple)
        form, function = told
        self.assertIs(is_form(curve, form), True)
        self.assertEqual(form[:2], ([1], [1]))
        self.assertLessEqual(len(form[2]) - 1, curve.genus())
        self.assertEqual(bundle_sum(curve, form_bundle(curve, form), bundle_of(curve, function)), bundle)
        return form

    def test_bundles(self):
        for curve in all_curves():
            for bundle in samples(curve, 1):
                self.assert_least(curve, bundle)

    def test_bundles_of_functions(self):
        for curve in all_curves():
            for one in low_functions(curve, 2, 4):
                self.assertEqual(self.assert_least(curve, bundle_of(curve, one)), ([1], [1], [1], [], 0))

    def test_joined_bundles_have_the_same_one(self):
        for curve in all_curves():
            for bundle in samples(curve, 3, 1)[::2]:
                for one in low_functions(curve, 4, 2)[1:]:
                    other = bundle_sum(curve, bundle, bundle_of(curve, one))
                    self.assertEqual(least_form(curve, other)[0], least_form(curve, bundle)[0])

    def test_genus_0(self):
        for curve in [one for p in PRIMES for one in curves_over(p)[:2]]:
            for bundle in samples(curve, 5):
                self.assertEqual(self.assert_least(curve, bundle), ([1], [1], [1], [], bundle_degree(curve, bundle)))

    def test_primes_of_the_power_12(self):
        for curve in [one for p in PRIMES for one in curves_over(p)[1::2]]:
            (q, w), wide = plain_place(curve, 12), wide_place(curve, 12)
            turned = (q, reckoning.less(curve.prime(), [], w))
            told = least_form(curve, [((q, w), 1)])
            self.assertLessEqual(len(told[0][2]) - 1, curve.genus())
            self.assertEqual(told[0][4], 12 - len(told[0][2]) + 1)
            self.assertIs(is_joining(curve, [((q, w), 1)], form_bundle(curve, told[0]), told[1]), True)
            self.assertEqual(least_form(curve, [(wide, 1)])[0], ([1], [1], [1], [], 24))
            self.assertIs(is_of_function(curve, [((), -24), *sorted([((q, w), 1), (turned, 1)])]), True)

    def test_classes_of_the_degree_0(self):
        # Places of the degree 1, less the far one, are joined for curves of genus 1 by no two unlike ones.
        for curve in [curves_over(p)[2] for p in PRIMES]:
            places = places_of(curve, 1)
            forms = [least_form(curve, [(place, 1)])[0] for place in places]
            for at, form in enumerate(forms):
                self.assertNotIn(form, forms[:at])
                self.assertEqual(form_bundle(curve, form), [(places[at], 1)])

    def test_multiples_come_back(self):
        # The number of places of the degree 1 is the number of classes of the degree 0 if the genus is 1.
        for curve in [curves_over(p)[at] for p in PRIMES for at in (2, 3)]:
            places = places_of(curve, 1)
            one = bundle_sum(curve, [(places[-1], 1)], [((), -1)])
            self.assertEqual(len(places) <= 20, True)
            self.assertIs(is_of_function(curve, bundle_times(curve, one, len(places))), True)


class JoiningTest(unittest.TestCase):
    def test_joined_bundles(self):
        for curve in all_curves():
            told = samples(curve, 6, 1)
            for at, other in enumerate(told):
                function = low_functions(curve, 7, 3)[at % 3]
                one = bundle_sum(curve, other, bundle_of(curve, function))
                found = joining(curve, one, other)
                self.assertIs(type(found), Function)
                self.assertEqual(bundle_sum(curve, other, bundle_of(curve, found)), one)
                self.assertIs(is_joining(curve, one, other, found), True)
                self.assertIs(is_joining(curve, one, other, function), True)
                self.assert_others_do_not(curve, one, other, function)

    def assert_others_do_not(self, curve, one, other, function):
        p = curve.prime()
        number = Function(curve, [p - 1], [], [1])
        self.assertIs(is_joining(curve, one, other, product_of(number, function)), True)
        x, y = Function(curve, [0, 1], [], [1]), Function(curve, [], [1], [1])
        for unlike in [product_of(function, x), product_of(function, y), quotient_of(function, x),
                       Function(curve, [], [], [1]), sum_of(function, number), power_of(function, -1),
                       product_of(function, Function(curve, [1, 1], [], [0, 1]))]:
            wanted = bool(unlike) and bundle_of(curve, quotient_of(unlike, function)) == []
            self.assertIs(is_joining(curve, one, other, unlike), wanted)

    def test_bundles_that_are_not_joined(self):
        many = [0, 0]
        for curve in all_curves():
            told = samples(curve, 8, 1)
            for at, one in enumerate(told):
                for other in told[at % 5::5]:
                    form, more = least_form(curve, one)[0], least_form(curve, other)[0]
                    found = joining(curve, one, other)
                    self.assertIs(found is not None, form == more)
                    many[found is not None] += 1
                    if bundle_degree(curve, one) != bundle_degree(curve, other):
                        self.assertIsNone(found)
                    if found is not None:
                        self.assertIs(is_joining(curve, one, other, found), True)
                    else:
                        for function in plain_functions(curve):
                            self.assertIs(is_joining(curve, one, other, function), False)
        self.assertGreater(min(many), 100)

    def test_unlike_bundles_of_the_same_degree(self):
        for curve in [one for p in PRIMES for one in curves_over(p) if one.genus()]:
            one, other = plain_and_turned(curve)
            degree = reckoning.degree(one)
            if degree <= curve.genus():
                self.assertIsNone(joining(curve, [(one, 1)], [(other, 1)]))
                self.assertIsNone(joining(curve, [(one, 2)], [(one, 1), (other, 1)]))
            both = [(one, 1), (other, 1)]
            self.assertEqual(tops(joining(curve, both, [((), 2 * degree)]))[1], [])
            self.assertIs(is_joining(curve, both, [((), 2 * degree)], Function(curve, one[0], [], [1])), True)
            self.assertIs(is_joining(curve, both, [((), 2 * degree - 1)], Function(curve, one[0], [], [1])), False)
            self.assertIs(is_joining(curve, both, [((), 2 * degree), (one, 1)], Function(curve, one[0], [], [1])), False)

    def test_zeros_and_poles_that_are_hidden(self):
        # The norm and the bottom of these show other places than those at which their orders are not 0.
        for curve in all_curves()[::2]:
            one, other = plain_and_turned(curve)
            p, f = curve.prime(), curve.polynomial()
            root = reckoning.less(p, [], reckoning.lifted(p, f, one, 2))
            function = Function(curve, root, [1], one[0])
            if len(norm(function).top()) > 13:
                continue
            bundle = bundle_of(curve, function)
            self.assertIs(is_joining(curve, bundle, [], function), True)
            named = [(place, number) for place, number in bundle if place not in (one, other)]
            self.assertIs(is_joining(curve, named, [], function), False)
            self.assertIs(is_joining(curve, [], [], function), False)
            self.assertIs(is_joining(curve, [], named, power_of(function, -1)), False)

    def test_functions_of_great_powers_are_judged_soon(self):
        for curve in all_curves()[::5]:
            stream = Stream(9)
            one = Function(curve, *[stream.full_polynomial(curve.prime(), 60) for _ in range(3)])
            self.assertIs(is_joining(curve, [], [], one), False)
            self.assertIs(is_joining(curve, [((), 2)], [((), 2)], product_of(one, one)), False)

    def test_values_that_are_no_functions(self):
        for curve in all_curves()[::3]:
            p = curve.prime()
            others = [Curve(p, [1, 1]), Curve(3 if p > 3 else 5, [1, 1])]
            values = wrong_functions() + [Function(other, [1], [], [1]) for other in others] + [
                Function(curve, [], [], [1]), nested(30), ([1], [], [1]), InvalidCurve(curve)]
            for value in values:
                self.assertIs(is_joining(curve, [], [], value), False, value)
            self.assertIs(is_joining(curve, [], [], Function(Curve(p, curve.polynomial()), [1], [], [1])), True)

    def test_bundles_of_functions(self):
        for curve in all_curves():
            for one in low_functions(curve, 10, 3):
                bundle = bundle_of(curve, one)
                self.assertIs(is_of_function(curve, bundle), True)
                self.assertIs(is_of_function(curve, bundle_sum(curve, bundle, [((), 1)])), False)
                place = plain_and_turned(curve)[0]
                more = [(place, 1), ((), -reckoning.degree(place))]
                moved = bundle_sum(curve, bundle, more[::-1])
                self.assertIs(is_of_function(curve, moved), curve.genus() == 0)
            self.assertIs(is_of_function(curve, []), True)
            for bundle in samples(curve, 11, 1):
                told = least_form(curve, bundle)[0] == ([1], [1], [1], [], 0)
                self.assertIs(is_of_function(curve, bundle), told)

    def test_arguments_by_name(self):
        five = Curve(5, [1, 1, 0, 1])
        one, third = ([0, 1], [1]), ([1, 1], [2])
        self.assertEqual(least_form(bundle=[(one, 2)], curve=five)[0], ([1], [1], [1, 1], [2], 1))
        function = joining(other=[((), 1), (third, 1)], one=[(one, 2)], curve=five)
        self.assertIs(is_joining(value=function, other=[((), 1), (third, 1)], one=[(one, 2)], curve=five), True)
        self.assertIs(is_joining(value=function, one=[((), 1), (third, 1)], other=[(one, 2)], curve=five), False)
        self.assertIs(is_of_function(bundle=[(one, 2)], curve=five), False)

    def test_wrong_arguments(self):
        for curve in [one for p in PRIMES for one in curves_over(p)[p % 8::8]]:
            curves, bad = (InvalidCurve, wrong_curves()), (InvalidBundle, wrong_bundles(curve))
            for call in (least_form, is_of_function):
                assert_each_refused(self, call, {"curve": curve, "bundle": []}, {"curve": curves, "bundle": bad})
            good = {"curve": curve, "one": [((), 1)], "other": []}
            wrong = {"curve": curves, "one": bad, "other": bad}
            assert_each_refused(self, joining, good, wrong)
            for value in (None, Function(curve, [1], [], [1])):
                assert_each_refused(self, is_joining, {**good, "value": value}, wrong)

    def test_arguments_stay_and_told_lists_belong_to_the_caller(self):
        for curve in [one for p in PRIMES for one in curves_over(p)[::3]]:
            for bundle in samples(curve, 12, 1):
                kept = repr(bundle)
                form, function = least_form(curve, bundle)
                first = repr(form)
                assert_no_list_twice(self, [bundle, form])
                for part in lists_within(form):
                    part.append(1)
                again, other = least_form(curve, bundle)
                self.assertEqual((repr(again), other), (first, function))
                self.assertEqual(joining(curve, bundle, bundle), joining(curve, bundle, bundle))
                self.assertEqual(repr(bundle), kept)


if __name__ == "__main__":
    unittest.main()
