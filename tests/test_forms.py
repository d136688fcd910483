"""Promises [20] and [21]: forms of bundles. With [2]."""

import unittest

from curveheads.bundles import bundle_degree, bundle_of, bundle_sum, bundle_times, bundle_turned, is_bundle
from curveheads.curves import Curve
from curveheads.errors import InvalidBundle, InvalidCurve, InvalidForm, InvalidFunction
from curveheads.forms import composed, form_bundle, form_of, form_opposite, is_form, shares
from curveheads.functions import Function, product_of
from tests import reckoning
from tests.bundle_samples import (
    is_of_bundle, mixed_bundles, places_to_take, plain_and_turned, some_bundles, wrong_bundles, wrong_forms)
from tests.place_samples import branches, low_places, plain_place, wide_place
from tests.samples import (
    PRIMES, Stream, all_curves, assert_each_refused, assert_no_list_twice, curves_over, lists_within,
    mixed_functions, plain_functions, product, tops, wrong_curves, wrong_functions)

NO_PLACE = ([1], [1], [1], [], 0)


def samples(curve, seed, many=3):
    return some_bundles(curve) + mixed_bundles(curve, seed, many)


def wrong_functions_here(curve):
    p = curve.prime()
    return wrong_functions() + plain_functions(Curve(p, [1, 1])) + [
        Function(Curve(3 if p > 3 else 5, [1, 1]), [1], [], [1])]


def low_forms(p, f, most):
    """All forms of a curve with top and bottom [1] or x, and a u of a power of at most so much."""
    found = []
    every = [one + [1] for power in range(most + 1) for one in all_lists(p, power)]
    for u in every:
        for v in all_lists(p, len(u) - 1):
            v = reckoning.trimmed(v)
            if not reckoning.rest(p, reckoning.less(p, f, reckoning.times(p, v, v)), u):
                found.extend([([1], [1], u, v, 0), ([0, 1], [1], u, v, -2), ([1], [0, 1], u, v, 1)])
    return found


def all_lists(p, size):
    found = [[]]
    for _ in range(size):
        found = [[number, *rest] for number in range(p) for rest in found]
    return found


class FormTest(unittest.TestCase):
    def assert_form(self, curve, bundle):
        told = form_of(curve, bundle)
        self.assertIs(is_form(curve, told), True)
        self.assertEqual([type(part) for part in told], [list, list, list, list, int])
        places = places_to_take(curve) + [place for place, _ in bundle]
        self.assertTrue(is_of_bundle(curve, told, bundle, places), (told, bundle))
        self.assertEqual(form_bundle(curve, told), bundle)
        return told

    def test_bundles_and_forms(self):
        for curve in all_curves():
            for bundle in samples(curve, 1):
                self.assert_form(curve, bundle)

    def test_great_numbers(self):
        for curve in all_curves()[::7]:
            one, other = plain_and_turned(curve)
            branch, wide = branches(curve)[0], [place for place in low_places(curve) if place[1] is None][0]
            for bundle in ([(one, 30)], [(other, -17)], [(one, 12), (other, -20)], [(one, -9), (other, -30)],
                           [(branch, 9)], [(branch, -8)], [(wide, 11)], [(wide, -12)]):
                self.assert_form(curve, bundle)

    def test_primes_of_the_power_12(self):
        for curve in [one for p in PRIMES for one in curves_over(p)[p % 8::8]]:
            (q, w), wide = plain_place(curve, 12), wide_place(curve, 12)
            p = curve.prime()
            turned = (q, reckoning.less(p, [], w))
            self.assertEqual(self.assert_form(curve, [((q, w), 1)]), ([1], [1], q, w, 0))
            self.assertEqual(self.assert_form(curve, [((q, w), -1)]), ([1], q, q, turned[1], 0))
            self.assertEqual(self.assert_form(curve, [(wide, 2)]), (product(p, [wide[0]] * 2), [1], [1], [], 0))
            pair = sorted([((q, w), 2), (turned, -1)])
            told = self.assert_form(curve, pair)
            self.assertEqual(told[:3], ([1], q, product(p, [q] * 3)))

    def test_no_place_and_the_far_one(self):
        for curve in all_curves():
            self.assertEqual(form_of(curve, []), NO_PLACE)
            self.assertEqual(form_bundle(curve, NO_PLACE), [])
            for number in (-30, -1, 4, 30):
                self.assertEqual(form_of(curve, [((), number)]), NO_PLACE[:4] + (number,))
                self.assertEqual(form_bundle(curve, NO_PLACE[:4] + (number,)), [((), number)])

    def test_each_form_is_that_of_just_its_bundle(self):
        for curve in curves_over(3)[1::2] + [curves_over(5)[2]]:
            p, seen = curve.prime(), {}
            for form in low_forms(p, curve.polynomial(), 3 if p == 3 else 2):
                self.assertIs(is_form(curve, form), form[0] == [1] or form[1] == [1])
                bundle = form_bundle(curve, form)
                self.assertIs(is_bundle(curve, bundle), True)
                self.assertEqual(form_of(curve, bundle), form)
                self.assertNotIn(repr(bundle), seen)
                seen[repr(bundle)] = True
                self.assertTrue(is_of_bundle(curve, form, bundle, places_to_take(curve)[:6]))

    def test_forms_of_functions(self):
        for curve in all_curves()[::2]:
            p = curve.prime()
            for one in [Function(curve, [0, 1], [], [1, 1]), Function(curve, [], [1], [0, 1]),
                        Function(curve, [1], [1], [1]), Function(curve, [p - 1, 1], [1], [0, 0, 1])]:
                told = self.assert_form(curve, bundle_of(curve, one))
                ends = shares(curve, told, one)
                self.assertIsNotNone(ends)
                degree = bundle_degree(curve, form_bundle(curve, told))
                self.assertEqual(degree, 0)

    def test_turned_forms(self):
        for curve in all_curves()[::2]:
            for bundle in samples(curve, 2, 2):
                top, bottom, u, v, far = form_of(curve, bundle)
                turned = (top, bottom, u, reckoning.less(curve.prime(), [], v), far)
                self.assertEqual(form_of(curve, bundle_turned(curve, bundle)), turned)

    def test_forms_of_great_powers_are_forms(self):
        for curve in all_curves()[::4]:
            place = plain_and_turned(curve)[0]
            p, f = curve.prime(), curve.polynomial()
            u, v = reckoning.taken(p, place[0], 70), reckoning.lifted(p, f, place, 70)
            self.assertIs(is_form(curve, ([1], [1], u, v, 10 ** 29)), True)
            self.assertIs(is_form(curve, ([0] * 80 + [1], [1], [1], [], -10 ** 29)), True)
            q = plain_place(curve, 13)
            self.assertIs(is_form(curve, ([1], [1], q[0], q[1], 0)), True)

    def test_what_is_no_form(self):
        for curve in [one for p in PRIMES for one in curves_over(p)[p % 4::4]]:
            for value in wrong_forms(curve):
                self.assertIs(is_form(curve, value), False, value)

    def test_arguments_by_name(self):
        five = Curve(5, [1, 1, 0, 1])
        low = ([1], [1], [0, 1], [1], 0)
        self.assertIs(is_form(value=low, curve=five), True)
        self.assertEqual(form_of(bundle=[(([0, 1], [1]), 1)], curve=five), low)
        self.assertEqual(form_bundle(form=low, curve=five), [(([0, 1], [1]), 1)])
        self.assertEqual(composed(other=NO_PLACE, one=low, curve=five), low)
        self.assertEqual(form_opposite(form=low, curve=five), ([1], [0, 1], [0, 1], [4], 0))
        self.assertEqual(shares(function=Function(five, [4], [1], [1]), form=low, curve=five), ([], [1]))

    def test_wrong_arguments(self):
        for curve in [one for p in PRIMES for one in curves_over(p)[p % 8::8]]:
            curves, bad = (InvalidCurve, wrong_curves()), (InvalidForm, wrong_forms(curve))
            bundles = (InvalidBundle, wrong_bundles(curve))
            assert_each_refused(self, form_of, {"curve": curve, "bundle": []}, {"curve": curves, "bundle": bundles})
            for call in (form_bundle, form_opposite):
                assert_each_refused(self, call, {"curve": curve, "form": NO_PLACE}, {"curve": curves, "form": bad})
            assert_each_refused(self, composed, {"curve": curve, "one": NO_PLACE, "other": NO_PLACE},
                                {"curve": curves, "one": bad, "other": bad})
            functions = (InvalidFunction, wrong_functions_here(curve))
            good = {"curve": curve, "form": NO_PLACE, "function": Function(curve, [], [], [1])}
            assert_each_refused(self, shares, good, {"curve": curves, "form": bad, "function": functions})
            for value in (NO_PLACE, None):
                assert_each_refused(self, is_form, {"curve": curve, "value": value}, {"curve": curves})

    def test_arguments_stay_and_told_lists_belong_to_the_caller(self):
        for curve in [one for p in PRIMES for one in curves_over(p)[1::3]]:
            told = [form_of(curve, bundle) for bundle in samples(curve, 3, 1)]
            for form in told:
                one = Function(curve, form[0], [], [1])
                for call, arguments in [(form_bundle, [form]), (form_opposite, [form]), (composed, [form, NO_PLACE]),
                                        (composed, [NO_PLACE, form]), (composed, [form, form]), (composed, [form, told[3]]),
                                        (form_of, [form_bundle(curve, form)]), (shares, [form, one])]:
                    kept = repr(arguments)
                    found = call(curve, *arguments)
                    first = repr(found)
                    assert_no_list_twice(self, found)
                    inner = {id(one) for one in lists_within(arguments)}
                    for part in lists_within(found):
                        self.assertNotIn(id(part), inner)
                        part.append(1)
                    self.assertEqual(repr(arguments), kept)
                    self.assertEqual(repr(call(curve, *arguments)), first)

    def test_a_changed_list_is_read_anew(self):
        curve = Curve(5, [1, 1, 0, 1])
        form = ([1], [1], [0, 1], [1], 0)
        told = form_bundle(curve, form)
        form[3][0] = 4
        self.assertEqual(told, [(([0, 1], [1]), 1)])
        self.assertEqual(form_bundle(curve, form), [(([0, 1], [4]), 1)])
        form[3][0] = 2
        self.assertIs(is_form(curve, form), False)


class ComposedTest(unittest.TestCase):
    def test_sums_of_bundles(self):
        for curve in all_curves():
            told = samples(curve, 4, 2)
            for at, one in enumerate(told):
                for other in told[at % 4::4]:
                    form = composed(curve, form_of(curve, one), form_of(curve, other))
                    self.assertEqual(form, form_of(curve, bundle_sum(curve, one, other)))
                    self.assertEqual(form_bundle(curve, form), bundle_sum(curve, one, other))

    def test_one_form_twice(self):
        for curve in all_curves():
            for bundle in samples(curve, 5, 2):
                form = form_of(curve, bundle)
                self.assertEqual(composed(curve, form, form), form_of(curve, bundle_times(curve, bundle, 2)))

    def test_opposites(self):
        for curve in all_curves():
            for bundle in samples(curve, 6, 2):
                form = form_of(curve, bundle)
                opposite = form_opposite(curve, form)
                self.assertIs(is_form(curve, opposite), True)
                self.assertEqual(opposite, form_of(curve, bundle_times(curve, bundle, -1)))
                self.assertEqual(form_opposite(curve, opposite), form)
                self.assertEqual(composed(curve, form, opposite), NO_PLACE)
                self.assertEqual(composed(curve, NO_PLACE, form), form)

    def test_sums_of_three(self):
        for curve in all_curves()[::3]:
            one, other, third = [form_of(curve, bundle) for bundle in mixed_bundles(curve, 7, 3)]
            self.assertEqual(composed(curve, composed(curve, one, other), third),
                             composed(curve, one, composed(curve, other, third)))
            self.assertEqual(composed(curve, one, other), composed(curve, other, one))

    def test_branches_by_themselves(self):
        for curve in all_curves():
            p = curve.prime()
            for q, _ in branches(curve):
                form = ([1], [1], q, [], 0)
                self.assertEqual(composed(curve, form, form), (q, [1], [1], [], 0))
                self.assertEqual(form_opposite(curve, form), ([1], q, q, [], 0))
                self.assertEqual(form_bundle(curve, ([1], q, q, [], 5)), [((), 5), ((q, []), -1)])
                told = composed(curve, ([1], q, q, [], 5), form)
                self.assertEqual(told, ([1], [1], [1], [], 5))
                self.assertEqual(composed(curve, told, (product(p, [q] * 3), [1], q, [], 0)),
                                 (product(p, [q] * 3), [1], q, [], 5))


class SharesTest(unittest.TestCase):
    def made(self, curve, form, a, b):
        """The function that two polynomials tell by a form."""
        p = curve.prime()
        top, bottom, u, v, _ = form
        without = reckoning.less(p, reckoning.times(p, a, u), reckoning.times(p, b, v))
        return Function(curve, reckoning.times(p, top, without), reckoning.times(p, top, b), bottom)

    def test_functions_that_are_made(self):
        for curve in all_curves():
            p, stream = curve.prime(), Stream(8)
            for bundle in samples(curve, 9, 2):
                form = form_of(curve, bundle)
                for _ in range(4):
                    a, b = stream.polynomial(p, 3), stream.polynomial(p, 2)
                    self.assertEqual(shares(curve, form, self.made(curve, form, a, b)), (a, b))
                self.assertEqual(shares(curve, form, Function(curve, [], [], [1])), ([], []))

    def test_there_are_some_exactly_if_all_orders_are_great_enough(self):
        many = [0, 0]
        for curve in all_curves():
            f = curve.polynomial()
            for bundle in samples(curve, 10, 2):
                form = form_of(curve, bundle)
                for one in plain_functions(curve)[1:] + mixed_functions(curve, 11, 2, 2) + [
                        self.made(curve, form, [1, 1], [2])]:
                    if not one:
                        continue
                    told = shares(curve, form, one)
                    enough = self.has_enough(curve.prime(), f, one, bundle)
                    self.assertIs(told is not None, enough)
                    many[enough] += 1
                    if told is not None:
                        self.assertEqual(self.made(curve, form, *told), one)
        self.assertGreater(min(many), 300)

    def has_enough(self, p, f, one, bundle):
        """Whether a function has the orders of a bundle at least, at its near places, and no other poles at near ones."""
        named = {repr(place): number for place, number in bundle}
        places = [place for place, _ in bundle if place]
        left = one.bottom()
        for place in places:
            while not reckoning.rest(p, left, place[0]):
                left = reckoning.quotient(p, left, place[0])
        if len(left) > 1:
            return False
        turned = [(place[0], reckoning.less(p, [], place[1])) for place in places if place[1]]
        orders = [(place, reckoning.order(p, f, tops(one), place)) for place in places + turned]
        return all(number >= named.get(repr(place), 0) for place, number in orders)

    def test_multiples(self):
        for curve in all_curves()[::3]:
            p = curve.prime()
            for bundle in samples(curve, 12, 1):
                form = form_of(curve, bundle)
                one = self.made(curve, form, [1], [0, 1])
                taken = product_of(one, Function(curve, [1, 2], [], [1]))
                self.assertEqual(shares(curve, form, taken), ([1, 2], [0, 1, 2]))
                turned_over = Function(curve, [1], [], [0, 1])
                told = shares(curve, form, product_of(one, turned_over))
                self.assertIsNone(told)
                self.assertIsNotNone(shares(curve, form, product_of(one, Function(curve, [], [1], [1]))))
                self.assertEqual(shares(curve, form, product_of(one, Function(curve, [p - 1], [], [1]))),
                                 ([p - 1], [0, p - 1]))


if __name__ == "__main__":
    unittest.main()
