"""Promises [42] to [45]: gaps, pairs of them, and what least forms and divided slopes have to do. With [2]."""

import itertools
import unittest

from curveheads.bundles import bundle_of, bundle_times
from curveheads.curves import Curve
from curveheads.descents import descent
from curveheads.differentials import differential_order, parts_without_poles
from curveheads.errors import InvalidCurve, InvalidNumber, InvalidPlace
from curveheads.forms import form_bundle
from curveheads.functions import Function, power_of, product_of, quotient_of, slope, sum_of
from curveheads.gaps import gap_differential, gaps, is_with_pole, pair_gaps, with_pole, with_poles
from curveheads.joined import is_of_function, joining, least_form
from curveheads.places import places_of
from curveheads.slopes import divided_slopes_in, whose_divided_slope
from curveheads.spaces import space_size
from tests import reckoning
from tests.bundle_samples import in_order
from tests.head_samples import orders_at, sign_taken
from tests.place_samples import low_places, plain_place, wide_place, wrong_places
from tests.samples import (
    PRIMES, all_curves, assert_each_refused, assert_refused, curves_over, lists_within, mixed_functions, never_whole,
    plain_functions, tops, trimmed, wrong_curves, wrong_functions)
from tests.space_samples import functions_of_other_curves, is_let


def low_three(curve):
    """The far place, and a branch and a plain place of degree 1 if there are some."""
    told = places_of(curve, 1)
    branch = [place for place in told if place and place[1] == []][:1]
    return [(), *branch, *[place for place in told if place and place[1]][-1:]]


def has_poles(curve, one, poles):
    """Whether a function has just these poles, by its orders."""
    told = [(place, order) for place, order in poles if order]
    return is_let(curve, in_order(told), one) and all(orders_at(curve, place, one) == -order for place, order in told)


class GapsTest(unittest.TestCase):
    def test_gaps(self):
        for curve in all_curves():
            g = curve.genus()
            for place in places_of(curve, 1):
                told = gaps(curve, place)
                self.assertIs(type(told), list)
                if place == () or place[1] == []:
                    self.assertEqual(told, [number for number in range(2 * g) if number % 2])
                else:
                    self.assertEqual(told, [number + 1 for number in range(g)])
                self.assertEqual(len(told), g)

    def test_orders_that_bring_a_function(self):
        for curve in all_curves():
            for place in low_three(curve):
                told = gaps(curve, place)
                sizes = [space_size(curve, [(place, order)] * (order != 0)) for order in range(2 * curve.genus() + 4)]
                for order in range(1, len(sizes)):
                    self.assertIs(order in told, sizes[order] == sizes[order - 1])

    def test_functions_with_a_pole(self):
        for curve in all_curves():
            for place in low_three(curve):
                for order in [*range(1, 10), 29, 30]:
                    told = with_pole(curve, place, order)
                    if order in gaps(curve, place):
                        self.assertIsNone(told)
                        continue
                    self.assertIs(type(told), Function)
                    self.assertEqual(told.curve(), curve)
                    self.assertTrue(has_poles(curve, told, [(place, order)]))
                    self.assertIs(is_with_pole(curve, place, order, told), True)
                    self.assertIs(is_with_pole(curve, place, order - 1 or 2, told), False)
                    self.assertIs(is_with_pole(curve, place, order + 1 if order < 30 else 1, told), False)

    def test_whether_a_function_has_just_this_pole(self):
        many = [0, 0]
        for at, curve in enumerate(all_curves()):
            for place in low_three(curve):
                x, y = Function(curve, [0, 1], [], [1]), Function(curve, [], [1], [1])
                told = plain_functions(curve) + mixed_functions(curve, at, 2, 3)
                told += [with_pole(curve, place, order) for order in (6, 7, 8)]
                told += [sum_of(told[-1], told[-2]), product_of(told[-3], told[-2]), sum_of(x, told[-1])]
                told += [product_of(y, y)]
                told += [quotient_of(told[-4], x), sum_of(told[-4], sign_taken(curve, low_places(curve)[-1], -1))]
                for one in told:
                    for order in (1, 2, 3, 6, 7, 8, 14):
                        wanted = bool(one) and has_poles(curve, one, [(place, order)])
                        self.assertIs(is_with_pole(curve, place, order, one), wanted)
                        many[wanted] += 1
        self.assertGreater(min(many), 300)

    def test_values_that_are_no_functions(self):
        for curve in all_curves()[::3]:
            for place in low_three(curve):
                for value in functions_of_other_curves(curve) + wrong_functions() + [Function(curve, [], [], [1])]:
                    self.assertIs(is_with_pole(curve, place, 2, value), False)

    def test_functions_of_other_curves(self):
        # They have just the pole that is asked for, but on a curve of their own.
        for curve in all_curves():
            p, f = curve.prime(), curve.polynomial()
            for other in [Curve(p, [1, 1]), Curve(p, [2, 1]), Curve(p, [0, 1, 0, 1]), Curve(3 if p > 3 else 5, [1, 1])]:
                if other != curve:
                    self.assertIs(is_with_pole(curve, (), 2, Function(other, [0, 1], [], [1])), False)
            for other in curves_over(p):
                if other != curve and len(other.polynomial()) == len(f):
                    self.assertIs(is_with_pole(curve, (), len(f) - 1, Function(other, [], [1], [1])), False)
            alike = Curve(p, f)
            self.assertIs(is_with_pole(curve, (), 2, Function(alike, [0, 1], [], [1])), True)

    def test_differentials_at_gaps(self):
        for curve in all_curves():
            for place in low_three(curve):
                for order in [*range(1, 9), 29, 30]:
                    told = gap_differential(curve, place, order)
                    self.assertIs(told is not None, order in gaps(curve, place))
                    if told is not None:
                        self.assertIs(type(told), Function)
                        self.assertIsNotNone(parts_without_poles(curve, told))
                        self.assertEqual(differential_order(curve, told, place), order - 1)

    def test_genus_0(self):
        for curve in [one for p in PRIMES for one in curves_over(p)[:2]]:
            for place in places_of(curve, 1):
                self.assertEqual(gaps(curve, place), [])
                self.assertIsNone(gap_differential(curve, place, 1))
                self.assertTrue(has_poles(curve, with_pole(curve, place, 1), [(place, 1)]))


class PairGapsTest(unittest.TestCase):
    def pairs_of_places(self, curve):
        told = low_three(curve)
        found = [(one, other) for one in told for other in told if one != other]
        plain = [place for place in places_of(curve, 1) if place and place[1]][:2]
        return found + [tuple(plain)] * (len(plain) == 2)

    def test_pairs_by_the_sizes_of_spaces(self):
        for curve in all_curves():
            for one, other in self.pairs_of_places(curve):
                told = pair_gaps(curve, one, other)
                self.assertIs(type(told), list)
                most, wanted = 2 * curve.genus() + 2, []
                for m, n in itertools.product(range(most), repeat=2):
                    size = space_size(curve, in_order([(one, m), (other, n)]))
                    less = [space_size(curve, in_order([(one, m - 1), (other, n)]))] if m else []
                    less += [space_size(curve, in_order([(one, m), (other, n - 1)]))] if n else []
                    if size in less:
                        wanted.append((m, n))
                self.assertEqual(told, wanted)
                self.assertTrue(all(m + n < 2 * curve.genus() for m, n in told))
                self.assertNotIn((0, 0), told)

    def test_pairs_exchanged_with_the_places(self):
        for curve in all_curves():
            for one, other in self.pairs_of_places(curve):
                told = pair_gaps(curve, one, other)
                self.assertEqual(sorted((n, m) for m, n in told), pair_gaps(curve, other, one))

    def test_pairs_with_a_nought(self):
        for curve in all_curves():
            for one, other in self.pairs_of_places(curve):
                told = pair_gaps(curve, one, other)
                self.assertEqual([m for m, n in told if n == 0], gaps(curve, one))
                self.assertEqual([n for m, n in told if m == 0], gaps(curve, other))

    def test_functions_with_two_poles(self):
        for curve in all_curves():
            for one, other in self.pairs_of_places(curve)[::2]:
                told = pair_gaps(curve, one, other)
                for pair in [(0, 0), (0, 1), (1, 0), (1, 1), (2, 0), (0, 3), (1, 2), (2, 2), (3, 1), (5, 1), (15, 15),
                             (0, 15)]:
                    found = with_poles(curve, one, other, pair)
                    self.assertIs(found is None, pair in told)
                    if found is not None:
                        self.assertIs(type(found), Function)
                        self.assertTrue(found)
                        self.assertTrue(has_poles(curve, found, [(one, pair[0]), (other, pair[1])]))

    def test_the_pair_of_noughts(self):
        for curve in all_curves():
            one, other = self.pairs_of_places(curve)[0]
            told = with_poles(curve, one, other, (0, 0))
            self.assertEqual((len(told.top()), told.side(), told.bottom()), (1, [], [1]))

    def test_genus_0(self):
        for curve in [one for p in PRIMES for one in curves_over(p)[:2]]:
            for one, other in self.pairs_of_places(curve):
                self.assertEqual(pair_gaps(curve, one, other), [])


def least_forms(curve):
    """All least forms of the degree 0, by trying."""
    p, f = curve.prime(), curve.polynomial()
    for power in range(curve.genus() + 1):
        for low in itertools.product(range(p), repeat=power):
            u = [*low, 1]
            for root in itertools.product(range(p), repeat=power):
                v = trimmed(root)
                if not reckoning.rest(p, reckoning.less(p, f, reckoning.times(p, v, v)), u):
                    yield [1], [1], u, v, -power


class LeastFormsTest(unittest.TestCase):
    def curves(self):
        low = [curve for curve in all_curves() if curve.prime() ** curve.genus() < 200]
        more = [(3, [1, 2, 0, 1]), (3, [1, 1, 1, 1]), (5, [0, 1, 1, 1]), (5, [2, 0, 0, 0, 0, 0, 0, 1])]
        return low + [Curve(p, f) for p, f in more]

    def test_how_many_stand_for_bundles_whose_multiples_are_those_of_functions(self):
        found = set()
        for curve in self.curves():
            p, many = curve.prime(), 0
            for form in least_forms(curve):
                many += is_of_function(curve, bundle_times(curve, form_bundle(curve, form), p))
            k = len(divided_slopes_in(curve, []))
            self.assertEqual(many, p ** k)
            found.add((curve.genus(), k))
        self.assertTrue({(0, 0), (1, 0), (1, 1), (2, 0), (2, 1)} <= found, found)

    def test_each_of_them_gives_a_divided_slope(self):
        for curve in self.curves():
            p, k = curve.prime(), len(divided_slopes_in(curve, []))
            if not k:
                continue
            seen = []
            for form in least_forms(curve):
                one = joining(curve, bundle_times(curve, form_bundle(curve, form), p), [])
                if one is None:
                    continue
                z = quotient_of(slope(one), one)
                self.assertIsNotNone(parts_without_poles(curve, z))
                self.assertEqual(descent(z), z)
                seen.append(z)
            self.assertEqual(len({repr(tops(z)) for z in seen}), p ** k)
            self.assertEqual(len(seen), p ** k)

    def test_each_of_these_comes_so(self):
        many = 0
        for curve in self.curves():
            p = curve.prime()
            for z in divided_slopes_in(curve, []):
                for times in range(1, p):
                    other = product_of(z, Function(curve, [times], [], [1]))
                    bundle = bundle_of(curve, whose_divided_slope(other))
                    self.assertTrue(all(number % p == 0 for _, number in bundle))
                    part = [(place, number // p) for place, number in bundle]
                    # It is that of no function, as the differential would be 0 then.
                    self.assertIs(is_of_function(curve, part), False)
                    form = least_form(curve, part)[0]
                    self.assertIs(is_of_function(curve, bundle_times(curve, form_bundle(curve, form), p)), True)
                    many += 1
        self.assertGreater(many, 5)

    def test_joined_bundles_give_the_same_one(self):
        for curve in self.curves()[-4:]:
            for z in divided_slopes_in(curve, []):
                one = whose_divided_slope(z)
                for more in (Function(curve, [0, 1], [], [1]), Function(curve, [1], [1], [0, 1])):
                    other = product_of(one, power_of(more, curve.prime()))
                    self.assertEqual(quotient_of(slope(other), other), z)


class ArgumentsTest(unittest.TestCase):
    def test_arguments_by_name(self):
        five, one = Curve(5, [1, 1, 0, 1]), ([0, 1], [1])
        x = Function(five, [0, 1], [], [1])
        self.assertEqual(gaps(place=one, curve=five), [1])
        self.assertIs(is_with_pole(five, (), 2, with_pole(order=2, place=(), curve=five)), True)
        self.assertIs(is_with_pole(value=x, order=2, place=(), curve=five), True)
        self.assertEqual(gap_differential(order=1, place=(), curve=five).side(), [1])
        self.assertEqual(pair_gaps(other=one, one=(), curve=five), [(0, 1), (1, 0)])
        self.assertIsNone(with_poles(pair=(1, 0), other=one, one=(), curve=five))

    def test_wrong_arguments(self):
        orders = (InvalidNumber, never_whole() + [0, -1, 31, 32, 10 ** 29, -10 ** 29])
        pairs = [None, True, 0, "", "00", [], [0, 0], (), (0,), (0, 0, 0), ((0, 0),), [(0, 0)], {}, {0: 0}, (True, 0),
                 (0, False), (None, 0), (0, None), ("0", 0), ([0], 0), (0, (0,)), (-1, 0), (0, -1), (16, 0), (0, 16),
                 (16, 16), (1, 10 ** 29), InvalidNumber((0, 0))]
        for curve in [one for p in PRIMES for one in curves_over(p)[p % 8::8]]:
            high = [place for place in low_places(curve) if reckoning.degree(place) > 1][:5]
            places = (InvalidPlace, wrong_places(curve)[::2] + high + [plain_place(curve, 12), wide_place(curve, 12)])
            good, wrong = {"curve": curve, "place": ()}, {"curve": (InvalidCurve, wrong_curves()), "place": places}
            x = Function(curve, [0, 1], [], [1])
            assert_each_refused(self, gaps, good, wrong)
            for call in (with_pole, gap_differential):
                assert_each_refused(self, call, {**good, "order": 2}, {**wrong, "order": orders})
            for value in (x, None, "x"):
                assert_each_refused(self, is_with_pole, {**good, "order": 2, "value": value}, {
                    **wrong, "order": orders})
            one, other = low_three(curve)[0], places_of(curve, 1)[-1]
            good = {"curve": curve, "one": one, "other": other}
            wrong = {"curve": wrong["curve"], "one": places, "other": places}
            assert_each_refused(self, pair_gaps, good, wrong)
            assert_each_refused(self, with_poles, {**good, "pair": (0, 1)}, {**wrong, "pair": (InvalidNumber, pairs)})

    def test_the_same_place_twice(self):
        for curve in all_curves()[::2]:
            for place in places_of(curve, 1)[-2:]:
                again = () if place == () else (list(place[0]), list(place[1]))
                assert_refused(self, InvalidPlace, again, pair_gaps, curve, place, again)
                for pair in ((0, 0), (1, 2), None, (16, 0), "1"):
                    assert_refused(self, InvalidPlace, again, with_poles, curve, place, again, pair)

    def test_places_of_other_degrees(self):
        for curve in all_curves():
            for place in [one for one in low_places(curve) if reckoning.degree(one) > 1][:3]:
                assert_refused(self, InvalidPlace, place, gaps, curve, place)
                assert_refused(self, InvalidPlace, place, pair_gaps, curve, (), place)
                assert_refused(self, InvalidPlace, place, pair_gaps, curve, place, place)

    def test_bounds(self):
        for curve in all_curves()[::4]:
            for call in (with_pole, gap_differential):
                for order in (1, 30):
                    call(curve, (), order)
                for order in (0, 31):
                    assert_refused(self, InvalidNumber, order, call, curve, (), order)
                    assert_refused(self, InvalidNumber, order, is_with_pole, curve, (), order, None)

    def test_arguments_stay_and_told_lists_belong_to_the_caller(self):
        for curve in all_curves()[::3]:
            one, other = low_three(curve)[0], places_of(curve, 1)[-1]
            kept = repr((one, other))
            for call, arguments in ((gaps, [other]), (pair_gaps, [one, other])):
                told = call(curve, *arguments)
                first = repr(told)
                for part in lists_within(told):
                    part.append(1)
                self.assertEqual(repr(call(curve, *arguments)), first)
            self.assertEqual(with_pole(curve, other, 8), with_pole(curve, other, 8))
            self.assertEqual(with_poles(curve, one, other, (4, 5)), with_poles(curve, one, other, (4, 5)))
            self.assertEqual(gap_differential(curve, other, 1), gap_differential(curve, other, 1))
            self.assertEqual(repr((one, other)), kept)


if __name__ == "__main__":
    unittest.main()
