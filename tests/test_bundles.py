"""Promises [18] and [19]: bundles of places, and the bundles of functions. With [2]."""

import unittest

from curveheads.bundles import (
    bundle_degree, bundle_of, bundle_sum, bundle_times, bundle_turned, is_bundle, number_at, poles_of)
from curveheads.curves import Curve
from curveheads.errors import InvalidBundle, InvalidCurve, InvalidFunction, InvalidNumber, InvalidPlace
from curveheads.functions import Function, less_of, power_of, product_of, quotient_of, turned
from tests import reckoning
from tests.bundle_samples import (
    in_order, mixed_bundles, place_key, places_to_take, plain_and_turned, some_bundles, wrong_bundles)
from tests.place_samples import branches, low_places, plain_place, some_places, wide_place, wrong_places
from tests.samples import (
    PRIMES, Stream, all_curves, assert_each_refused, assert_no_list_twice, curves_over, first_primes, lists_within,
    never_whole, plain_functions, tops, trimmed, wrong_curves, wrong_functions)

EMPTY = []


def samples(curve, seed, many=4):
    return some_bundles(curve) + mixed_bundles(curve, seed, many)


def as_numbers(bundle):
    """The numbers of a bundle by the words of their places."""
    return {repr(place): number for place, number in bundle}


def low_functions(curve, seed, many):
    """Functions whose norms have no prime factors of a power above 12: plain ones, and such without a plan."""
    p, stream = curve.prime(), Stream(seed)
    found = [one for one in plain_functions(curve) if one]
    for at in range(many):
        top, side = stream.full_polynomial(p, at % 7), stream.polynomial(p, min(2, at % 4))
        found.append(Function(curve, top, trimmed(side), stream.full_polynomial(p, at % 5)))
    return found


def wrong_functions_here(curve):
    p = curve.prime()
    return wrong_functions() + plain_functions(Curve(p, [1, 1])) + [
        Function(Curve(3 if p > 3 else 5, [1, 1]), [1], [], [1]), Function(curve, [], [], [1])]


class BundleTest(unittest.TestCase):
    def test_bundles(self):
        for curve in all_curves():
            for bundle in samples(curve, 1):
                self.assertIs(is_bundle(curve, bundle), True)
                self.assertIs(is_bundle(value=bundle, curve=curve), True)

    def test_what_is_no_bundle(self):
        for curve in [one for p in PRIMES for one in curves_over(p)[p % 4::4]]:
            for value in wrong_bundles(curve):
                self.assertIs(is_bundle(curve, value), False, value)
                self.assertIs(is_bundle(Curve(curve.prime(), curve.polynomial()), value), False)

    def test_the_order_of_places(self):
        for curve in all_curves()[::2]:
            places = sorted(places_to_take(curve) + [plain_place(curve, 12), wide_place(curve, 12)], key=place_key)
            everything = [(place, 1) for place in places]
            self.assertIs(is_bundle(curve, everything), True)
            for at in range(len(everything) - 1):
                swapped = everything[:at] + [everything[at + 1], everything[at]] + everything[at + 2:]
                self.assertIs(is_bundle(curve, swapped), False)
                self.assertIs(is_bundle(curve, everything[:at] + everything[at:at + 1] * 2), False)
                self.assertIs(is_bundle(curve, everything[:at] + everything[at + 1:]), True)

    def test_limits_are_no_bounds(self):
        for curve in curves_over(7):
            places = low_places(curve)[:20]
            self.assertIs(is_bundle(curve, in_order([(place, 10 ** 29) for place in places])), True)
            self.assertIs(is_bundle(curve, in_order([(place, -31) for place in places])), True)

    def test_a_power_of_13_is_refused(self):
        for curve in all_curves()[::3]:
            for place in (plain_place(curve, 13), wide_place(curve, 13)):
                self.assertIs(is_bundle(curve, [(place, 1)]), False)
            for place in (plain_place(curve, 12), wide_place(curve, 12)):
                self.assertIs(is_bundle(curve, [(place, 1)]), True)

    def test_number_at(self):
        for curve in all_curves()[::2]:
            for bundle in samples(curve, 2):
                numbers = as_numbers(bundle)
                for place in places_to_take(curve) + [plain_place(curve, 12)]:
                    self.assertEqual(number_at(curve, bundle, place), numbers.get(repr(place), 0))

    def test_degrees(self):
        for curve in all_curves():
            for bundle in samples(curve, 3):
                wanted = sum(number * reckoning.degree(place) for place, number in bundle)
                self.assertEqual(bundle_degree(curve, bundle), wanted)
        self.assertEqual(bundle_degree(Curve(5, [1, 1, 0, 1]), EMPTY), 0)

    def test_sums(self):
        for curve in all_curves()[::2]:
            told = samples(curve, 4)
            for at, one in enumerate(told):
                for other in told[at % 4::4]:
                    self.assert_sum(curve, one, other, bundle_sum(curve, one, other))

    def assert_sum(self, curve, one, other, told):
        left, right = as_numbers(one), as_numbers(other)
        wanted = {}
        for name in list(left) + list(right):
            if left.get(name, 0) + right.get(name, 0):
                wanted[name] = left.get(name, 0) + right.get(name, 0)
        self.assertIs(is_bundle(curve, told), True)
        self.assertEqual(as_numbers(told), wanted)
        self.assertEqual(bundle_degree(curve, told), bundle_degree(curve, one) + bundle_degree(curve, other))

    def test_sums_that_come_to_nought(self):
        for curve in all_curves()[::3]:
            for bundle in samples(curve, 5):
                opposite = bundle_times(curve, bundle, -1)
                self.assertEqual(bundle_sum(curve, bundle, opposite), [])
                self.assertEqual(bundle_sum(curve, bundle, []), bundle)
                self.assertEqual(bundle_sum(curve, [], bundle), bundle)

    def test_times(self):
        for curve in all_curves()[::2]:
            for bundle in samples(curve, 6):
                for count in (-20, -3, -1, 1, 2, 19, 20):
                    told = bundle_times(curve, bundle, count)
                    self.assertEqual(told, [(place, count * number) for place, number in bundle])
                    self.assertIs(is_bundle(curve, told), True)
                self.assertEqual(bundle_times(curve, bundle, 0), [])

    def test_turned(self):
        for curve in all_curves():
            for bundle in samples(curve, 7):
                told = bundle_turned(curve, bundle)
                self.assertIs(is_bundle(curve, told), True)
                wanted = {repr((place[0], reckoning.less(curve.prime(), [], place[1])) if place and place[1] else place):
                          number for place, number in bundle}
                self.assertEqual(as_numbers(told), wanted)
                self.assertEqual(bundle_turned(curve, told), bundle)

    def test_arguments_by_name(self):
        five = Curve(5, [1, 1, 0, 1])
        one, other = ([0, 1], [1]), ([0, 1], [4])
        self.assertEqual(number_at(place=one, bundle=[(one, 2)], curve=five), 2)
        self.assertEqual(bundle_degree(bundle=[(one, 2)], curve=five), 2)
        self.assertEqual(bundle_sum(other=[(one, 2)], one=[(other, 1)], curve=five), [(one, 2), (other, 1)])
        self.assertEqual(bundle_times(count=3, bundle=[(one, 2)], curve=five), [(one, 6)])
        self.assertEqual(bundle_turned(bundle=[(one, 2)], curve=five), [(other, 2)])
        x = Function(five, [0, 1], [], [1])
        self.assertEqual(bundle_of(function=x, curve=five), [((), -2), (one, 1), (other, 1)])
        self.assertEqual(poles_of(function=x, curve=five), [((), 2)])

    def test_wrong_arguments(self):
        counts = never_whole() + [-21, 21, 10 ** 29, -10 ** 29]
        for curve in [one for p in PRIMES for one in curves_over(p)[p % 8::8]]:
            bad = (InvalidBundle, wrong_bundles(curve))
            good = {"curve": curve, "bundle": [((), 1)]}
            wrong = {"curve": (InvalidCurve, wrong_curves()), "bundle": bad}
            assert_each_refused(self, bundle_degree, good, wrong)
            assert_each_refused(self, bundle_turned, good, wrong)
            assert_each_refused(self, bundle_times, {**good, "count": 20}, {**wrong, "count": (InvalidNumber, counts)})
            places = (InvalidPlace, wrong_places(curve)[::2])
            assert_each_refused(self, number_at, {**good, "place": ()}, {**wrong, "place": places})
            assert_each_refused(
                self, bundle_sum, {"curve": curve, "one": [((), 1)], "other": []},
                {"curve": (InvalidCurve, wrong_curves()), "one": bad, "other": bad})
            for value in ([], None):
                assert_each_refused(self, is_bundle, {"curve": curve, "value": value},
                                    {"curve": (InvalidCurve, wrong_curves())})

    def test_equal_curves_count_as_the_same(self):
        for curve in curves_over(3):
            again = Curve(3, curve.polynomial())
            x = Function(again, [0, 1], [], [1])
            self.assertEqual(bundle_of(curve, x), bundle_of(again, Function(curve, [0, 1], [], [1])))

    def test_arguments_stay_and_told_lists_belong_to_the_caller(self):
        for curve in [one for p in PRIMES for one in curves_over(p)[::3]]:
            for bundle in samples(curve, 8, 1):
                other = some_bundles(curve)[-1]
                for call, arguments in [(bundle_sum, [other]), (bundle_sum, [[]]), (bundle_times, [1]),
                                        (bundle_times, [-2]), (bundle_turned, [])]:
                    kept = repr((bundle, arguments))
                    told = call(curve, bundle, *arguments)
                    first = repr(told)
                    assert_no_list_twice(self, [bundle, arguments, told])
                    for one in lists_within(told):
                        one.append(1)
                    self.assertEqual(repr((bundle, arguments)), kept)
                    self.assertEqual(repr(call(curve, bundle, *arguments)), first)

    def test_a_changed_list_is_read_anew(self):
        for curve in curves_over(5):
            one, other = plain_and_turned(curve)
            bundle = [((), 1), (one, 2)]
            told = bundle_times(curve, bundle, 2)
            bundle[1] = (other, 5)
            self.assertEqual(told, [((), 2), (one, 4)])
            self.assertEqual(bundle_times(curve, bundle, 2), [((), 2), (other, 10)])
            self.assertEqual(number_at(curve, bundle, one), 0)
            bundle.append(((), 1))
            self.assertIs(is_bundle(curve, bundle), False)


class BundleOfTest(unittest.TestCase):
    def assert_bundle_of(self, curve, one):
        """All told orders are right, and no other prime polynomial divides the norm or the bottom."""
        p, f = curve.prime(), curve.polynomial()
        told = bundle_of(curve, one)
        self.assertIs(is_bundle(curve, told), True)
        for place, number in told:
            self.assertEqual(number, reckoning.order(p, f, tops(one), place))
        self.assertEqual(sum(number * reckoning.degree(place) for place, number in told), 0)
        for left in (reckoning.norm_top(p, f, tops(one)), one.bottom()):
            for place, _ in told:
                while place and not reckoning.rest(p, left, place[0]):
                    left = reckoning.quotient(p, left, place[0])
            self.assertEqual(len(left), 1)
        named = as_numbers(told)
        for q in [place[0] for place, _ in told if place and len(place[0]) < 4]:
            for place in reckoning.places_by_trying(p, f, q):
                self.assertEqual(named.get(repr(place), 0), reckoning.order(p, f, tops(one), place))
        self.assertEqual(named.get("()", 0), reckoning.order(p, f, tops(one), ()))
        self.assertEqual(poles_of(curve, one), [(place, -number) for place, number in told if number < 0])
        return told

    def test_functions_without_a_plan(self):
        for curve in all_curves():
            for one in low_functions(curve, 9, 9):
                self.assert_bundle_of(curve, one)

    def test_numbers(self):
        for curve in all_curves():
            for number in range(1, curve.prime()):
                self.assertEqual(bundle_of(curve, Function(curve, [number], [], [1])), [])
                self.assertEqual(poles_of(curve, Function(curve, [number], [], [1])), [])

    def test_functions_with_common_factors(self):
        for curve in all_curves()[::2]:
            p, f = curve.prime(), curve.polynomial()
            for q, w in places_to_take(curve)[1:]:
                high = reckoning.taken(p, q, 2)
                self.assert_bundle_of(curve, Function(curve, high, high, [1]))
                if len(q) < 4:
                    # The norm is q * q times 1 less q * q * f, which has a power of at most 11.
                    self.assert_bundle_of(curve, Function(curve, q, high, reckoning.taken(p, q, 3)))
                if w:
                    # A zero at the one place, and a pole at the one turned about, neither of which the norm shows.
                    root = reckoning.less(p, [], reckoning.lifted(p, f, (q, w), 2))
                    one = Function(curve, root, [1], q)
                    if len(reckoning.norm_top(p, f, tops(one))) < 14:
                        told = as_numbers(self.assert_bundle_of(curve, one))
                        self.assertGreater(told[repr((q, w))], 0)
                        self.assertLess(told[repr((q, reckoning.less(p, [], w)))], 0)

    def test_products_quotients_and_powers(self):
        for curve in all_curves()[::2]:
            told = low_functions(curve, 10, 4)
            for at, one in enumerate(told):
                for other in told[at % 4::4]:
                    left, right = bundle_of(curve, one), bundle_of(curve, other)
                    self.assertEqual(bundle_of(curve, product_of(one, other)), bundle_sum(curve, left, right))
                    self.assertEqual(bundle_of(curve, quotient_of(one, other)),
                                     bundle_sum(curve, left, bundle_times(curve, right, -1)))
            for one in told[::3]:
                for exponent in (-3, 0, 5):
                    self.assertEqual(bundle_of(curve, power_of(one, exponent)),
                                     bundle_times(curve, bundle_of(curve, one), exponent))

    def test_turned_functions(self):
        for curve in all_curves()[::2]:
            for one in low_functions(curve, 11, 5):
                self.assertEqual(bundle_of(curve, turned(one)), bundle_turned(curve, bundle_of(curve, one)))

    def test_x_and_y(self):
        for curve in all_curves():
            f = curve.polynomial()
            told = bundle_of(curve, Function(curve, [], [1], [1]))
            self.assertEqual(told[0], ((), 1 - len(f)))
            self.assertTrue(all(place[1] == [] and number == 1 for place, number in told[1:]))
            self.assertEqual(sum(len(place[0]) - 1 for place, _ in told[1:]), len(f) - 1)
            shifted = low_places(curve, 1)[0][0]
            over = [place for place in low_places(curve, 1) if place[0] == shifted]
            number = 2 if over[0][1] == [] else 1
            self.assertEqual(bundle_of(curve, Function(curve, shifted, [], [1])),
                             [((), -2)] + [(place, number) for place in over])

    def test_primes_of_the_power_12(self):
        for curve in [one for p in PRIMES for one in curves_over(p)[1::4]]:
            p = curve.prime()
            (q, w), wide = plain_place(curve, 12), wide_place(curve, 12)
            begun = Function(curve, reckoning.less(p, [], w), [1], [1])
            for one in (Function(curve, q, [], first_primes(p, 12, 2)[1]), Function(curve, wide[0], [], [1])):
                self.assert_bundle_of(curve, one)
            self.assertEqual(bundle_of(curve, Function(curve, [1], [], wide[0])), [((), 24), (wide, -1)])
            told = bundle_of(curve, product_of(begun, turned(begun)))
            self.assertIn((q, w), [place for place, _ in told])

    def test_norms_of_great_powers(self):
        # Products of many functions have norms that the ways for low powers alone would not do for.
        for curve in [one for p in PRIMES for one in curves_over(p)[p % 4::4]]:
            p = curve.prime()
            one, wanted = Function(curve, [1], [], [1]), []
            for q, w in [place for place in low_places(curve) if place[1]][:40:2]:
                part = Function(curve, reckoning.less(p, [], w), [1], q)
                one, wanted = product_of(one, part), bundle_sum(curve, wanted, bundle_of(curve, part))
            for power in (4, 6, 12):
                for q in first_primes(p, power, 3):
                    part = Function(curve, q, [], [1])
                    one, wanted = product_of(one, part), bundle_sum(curve, wanted, bundle_of(curve, part))
            self.assertGreater(len(reckoning.norm_top(p, curve.polynomial(), tops(one))), 80)
            self.assertEqual(bundle_of(curve, one), wanted)

    def test_wrong_arguments(self):
        for curve in [one for p in PRIMES for one in curves_over(p)[1::2]]:
            wrong = {"curve": (InvalidCurve, wrong_curves()), "function": (InvalidFunction, wrong_functions_here(curve))}
            for call in (bundle_of, poles_of):
                assert_each_refused(self, call, {"curve": curve, "function": Function(curve, [1], [], [1])}, wrong)

    def test_told_lists_belong_to_the_caller(self):
        for curve in curves_over(5):
            for one in low_functions(curve, 12, 3):
                for call in (bundle_of, poles_of):
                    kept = repr(tops(one))
                    told = call(curve, one)
                    first = repr(told)
                    assert_no_list_twice(self, told)
                    for part in lists_within(told):
                        part.append(1)
                    self.assertEqual(repr(call(curve, one)), first)
                    self.assertEqual(repr(tops(one)), kept)

    def test_at_other_places_it_is_nought(self):
        for curve in all_curves()[::3]:
            x = Function(curve, [0, 1], [], [1])
            for one in low_functions(curve, 13, 2):
                added = less_of(one, x)
                if not added or len(reckoning.norm_top(curve.prime(), curve.polynomial(), tops(added))) > 13:
                    continue
                told = bundle_of(curve, added)
                for place in some_places(curve)[:-2] + branches(curve):
                    wanted = reckoning.order(curve.prime(), curve.polynomial(), tops(added), place)
                    self.assertEqual(number_at(curve, told, place), wanted)


if __name__ == "__main__":
    unittest.main()
