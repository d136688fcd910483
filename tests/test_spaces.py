"""Promises [24] to [27]: the spaces of the functions that bundles let. With [2]."""

import itertools
import unittest

from curveheads.bundles import bundle_sum, bundle_times, is_bundle
from curveheads.curves import Curve
from curveheads.errors import InvalidBundle, InvalidCurve, InvalidFunction, InvalidList, InvalidPlace
from curveheads.functions import Function, far_order, lead, product_of, quotient_of, sum_of
from curveheads.orders import order_at
from curveheads.reduced import least_two, two_fars
from curveheads.places import places_of
from curveheads.spaces import (
    dual, first_along, fixed_part, space_basis, space_made, space_parts, space_size)
from tests import reckoning
from tests.bundle_samples import places_to_take, plain_and_turned, wrong_bundles
from tests.place_samples import branches, low_places, plain_place, wide_place, wrong_places
from tests.samples import (
    PRIMES, Stream, all_curves, assert_each_refused, assert_no_list_twice, assert_refused, curves_over, lists_within,
    mixed_functions, nested, plain_functions, tops, trimmed, wrong_curves)
from tests.space_samples import degree_of, functions_of_other_curves, is_let, samples, with_degree


def far_number(bundle):
    return sum(number for place, number in bundle if not place)


def number_in(bundle, wanted):
    return sum(number for place, number in bundle if place == wanted)


def wrong_number_lists(p, size):
    """Values that are no lists of so many numbers."""
    good = [0] * size
    found = [None, True, 0, "", tuple(good), {}, nested(30), "0" * size, good + [0], good + [1], good + [None],
             {at: 0 for at in range(size)}, Curve(3, [0, 1]), InvalidList([]), [good], [[0]] * (size + 1)]
    if size:
        found.extend([[], good[1:], (0,) * size])
        for value in (p, -1, True, False, None, "0", [0], (), 10 ** 29, {}, Curve(3, [0, 1])):
            found.extend([good[1:] + [value], [value] + good[1:]])
    return found


class SpaceTest(unittest.TestCase):
    def assert_basis(self, curve, bundle):
        """The basis is as [24] says, and as many functions as are told by the far orders."""
        n = far_number(bundle)
        even, odd = least_two(curve, bundle)
        told = space_basis(curve, bundle)
        self.assertIs(type(told), list)
        wanted = []
        for one, far in zip((even, odd), two_fars(curve, bundle)):
            many = max(0, (n - far) // 2 + 1) if far <= n else 0
            wanted.extend((far + 2 * power, product_of(Function(curve, [0] * power + [1], [], [1]), one))
                          for power in range(many))
        wanted.sort(key=lambda one: one[0])
        self.assertEqual(told, [one for _, one in wanted])
        self.assertEqual([far_order(one) for one in told], sorted(far_order(one) for one in told))
        self.assertEqual(space_size(curve, bundle), len(told))
        for one in told[:2] + told[-2:]:
            self.assertTrue(is_let(curve, bundle, one))
        return told

    def test_bases(self):
        for curve in all_curves():
            for bundle in samples(curve, 1):
                self.assert_basis(curve, bundle)

    def test_sizes_and_those_of_duals(self):
        for curve in all_curves():
            g = curve.genus()
            for bundle in samples(curve, 2):
                other, degree = dual(curve, bundle), degree_of(bundle)
                size = space_size(curve, bundle)
                self.assertEqual(size - space_size(curve, other), degree - g + 1)
                if degree < 0:
                    self.assertEqual(size, 0)
                if degree > 2 * g - 2:
                    self.assertEqual(size, degree - g + 1)
                if degree >= 0:
                    self.assertIn(size, range(max(0, degree - g + 1), degree + 2))

    def test_duals(self):
        for curve in all_curves():
            g, m = curve.genus(), len(curve.polynomial()) - 1
            for bundle in samples(curve, 3):
                other = dual(curve, bundle)
                self.assertIs(is_bundle(curve, other), True)
                near = [(place, -number) for place, number in bundle if place]
                far = 2 * g - 2 - far_number(bundle)
                self.assertEqual(other, [((), far)] * bool(far) + near)
                self.assertEqual(dual(curve, other), bundle)
                even, odd = two_fars(curve, bundle)
                self.assertEqual(two_fars(curve, other), (m - odd, m - even))

    def test_products_with_the_dual(self):
        many = 0
        for curve in all_curves():
            for bundle in samples(curve, 4, 1):
                for one in space_basis(curve, bundle):
                    for other in space_basis(curve, dual(curve, bundle)):
                        found = product_of(one, other)
                        self.assertEqual((found.side(), found.bottom()), ([], [1]))
                        self.assertLessEqual(len(found.top()), curve.genus())
                        many += 1
        self.assertGreater(many, 100)

    def test_all_functions_that_are_let(self):
        # All functions with a told bottom and tops of low powers are tried by their orders.
        for curve in curves_over(3)[1:6]:
            p, m = 3, len(curve.polynomial()) - 1
            (q, w), other = plain_and_turned(curve)
            branch = branches(curve)[0]
            tried = [[((), 2)], [((), m), ((q, w), 1)], [((), 1), ((q, w), 1)], [((), 3), ((q, w), 1), (other, -1)]]
            for bundle in tried + [[((), m + 1), (branch, -1)]] * (len(branch[0]) < 4):
                self.assert_all_let(curve, bundle, p, m, q)

    def assert_all_let(self, curve, bundle, p, m, q):
        bottom = q if any(place and number > 0 for place, number in bundle) else [1]
        far = far_number(bundle) + 2 * (len(bottom) - 1)
        sizes = far // 2 + 1, max(0, (far - m) // 2 + 1)
        found = 0
        for numbers in itertools.product(range(p), repeat=sum(sizes)):
            top, side = trimmed(numbers[:sizes[0]]), trimmed(numbers[sizes[0]:])
            one = Function(curve, top, side, bottom)
            inside = is_let(curve, bundle, one)
            found += inside
            if numbers[-1] == 1:
                self.assertIs(space_parts(curve, bundle, one) is not None, inside)
        self.assertEqual(found, p ** space_size(curve, bundle))

    def test_parts_and_what_is_made(self):
        for curve in all_curves():
            p, stream = curve.prime(), Stream(5)
            for bundle in samples(curve, 5, 1)[::2]:
                basis = space_basis(curve, bundle)
                for _ in range(2):
                    numbers = [stream.below(p) for _ in basis]
                    made = space_made(curve, bundle, numbers)
                    wanted = Function(curve, [], [], [1])
                    for number, one in zip(numbers, basis):
                        times = Function(curve, [number] if number else [], [], [1])
                        wanted = sum_of(wanted, product_of(times, one))
                    self.assertEqual(made, wanted)
                    self.assertEqual(space_parts(curve, bundle, made), numbers)
                for at, one in enumerate(basis):
                    self.assertEqual(space_parts(curve, bundle, one), [int(at == by) for by in range(len(basis))])
                nought = Function(curve, [], [], [1])
                self.assertEqual(space_parts(curve, bundle, nought), [0] * len(basis))
                self.assertEqual(space_made(curve, bundle, [0] * len(basis)), nought)

    def test_parts_of_functions_that_are_not_let(self):
        many = [0, 0]
        for curve in all_curves():
            for at, bundle in enumerate(samples(curve, 6, 1)[::2]):
                even, odd = least_two(curve, bundle)
                x = Function(curve, [0, 1], [], [1])
                for one in [*plain_functions(curve)[at % 3::3], *mixed_functions(curve, at, 1, 2), even, odd,
                            product_of(even, x), product_of(odd, x), quotient_of(odd, x), sum_of(even, odd)]:
                    told = space_parts(curve, bundle, one)
                    self.assertIs(told is not None, is_let(curve, bundle, one))
                    many[told is not None] += 1
                    if told is not None:
                        self.assertEqual(space_made(curve, bundle, told), one)
        self.assertGreater(min(many), 500)

    def test_genus_0(self):
        for curve in [one for p in PRIMES for one in curves_over(p)[:2]]:
            for bundle in samples(curve, 7):
                self.assertEqual(space_size(curve, bundle), max(0, degree_of(bundle) + 1))

    def test_wide_places_of_the_power_12(self):
        for curve in [one for p in PRIMES for one in curves_over(p)[1::4]]:
            plain, wide = plain_place(curve, 12), wide_place(curve, 12)
            for bundle, degree in [([(plain, 1)], 12), ([(wide, 1)], 24), ([((), -12), (plain, 2)], 12)]:
                told = self.assert_basis(curve, bundle)
                self.assertEqual(len(told), degree - curve.genus() + 1)


class FixedPartTest(unittest.TestCase):
    def assert_fixed_part(self, curve, bundle):
        p, f = curve.prime(), curve.polynomial()
        basis, told = space_basis(curve, bundle), fixed_part(curve, bundle)
        if not basis:
            self.assertIsNone(told)
            return None
        self.assertIs(is_bundle(curve, told), True)
        self.assertTrue(all(number > 0 for _, number in told))
        places = [place for place, _ in bundle] + [place for place, _ in told] + places_to_take(curve)[:4]
        for place in places:
            least = min(reckoning.order(p, f, tops(one), place) for one in basis)
            self.assertEqual(number_in(told, place), least + number_in(bundle, place))
        less = bundle_sum(curve, bundle, bundle_times(curve, told, -1))
        self.assertEqual(space_size(curve, less), len(basis))
        for one in basis:
            self.assertIsNotNone(space_parts(curve, less, one))
        self.assertEqual(fixed_part(curve, less), [])
        if degree_of(bundle) >= 2 * curve.genus():
            self.assertEqual(told, [])
        if len(basis) == 1:
            self.assertEqual(degree_of(told), degree_of(bundle))
        return told

    def test_bundles(self):
        many = [0, 0, 0]
        for curve in all_curves():
            for bundle in samples(curve, 8)[curve.genus() % 2::2]:
                told = self.assert_fixed_part(curve, bundle)
                many[0 if told is None else 1 if told == [] else 2] += 1
        self.assertGreater(min(many), 50)

    def test_places_that_come_in(self):
        # What one function alone has beyond what is asked for may be at places that the bundle doesn't name.
        found = 0
        for curve in [one for p in PRIMES for one in curves_over(p) if one.genus() > 1]:
            for bundle in samples(curve, 9, 2)[::2]:
                for degree in range(curve.genus() + 1):
                    told = self.assert_fixed_part(curve, with_degree(bundle, degree))
                    found += bool(told) and any(place not in [one for one, _ in bundle] for place, _ in told if place)
        self.assertGreater(found, 20)

    def test_at_the_far_place(self):
        for curve in all_curves():
            for number in range(0, 2 * curve.genus()):
                self.assertEqual(fixed_part(curve, [((), number)] * bool(number)), [((), 1)] * (number % 2))
            self.assertEqual(fixed_part(curve, [((), 2 * curve.genus() + 1)]), [])
            self.assertIsNone(fixed_part(curve, [((), -1)]))
            self.assertEqual(fixed_part(curve, []), [])

    def test_functions(self):
        for curve in [one for p in PRIMES for one in curves_over(p) if one.genus()]:
            one, other = plain_and_turned(curve)
            degree = reckoning.degree(one)
            if degree <= curve.genus():
                self.assertEqual(fixed_part(curve, [(one, 1)]), [(one, 1)])
            self.assert_fixed_part(curve, [((), 1), (one, 1), (other, 1)])
            self.assertEqual(fixed_part(curve, [(one, 1), (other, 1)]), [])


class FirstAlongTest(unittest.TestCase):
    def test_bundles_and_places(self):
        for curve in all_curves():
            places = places_of(curve, 1)
            for at, bundle in enumerate(samples(curve, 10, 1)[::2]):
                for place in [places[0], places[-1 - at % len(places)]]:
                    told = first_along(curve, bundle, place)
                    self.assertIs(type(told), tuple)
                    number, one = told
                    self.assertIs(type(number), int)
                    self.assertIn(number + degree_of(bundle), range(curve.genus() + 1))
                    more = bundle_sum(curve, bundle, [(place, number)] * bool(number))
                    self.assertEqual(space_basis(curve, more), [one])
                    self.assertTrue(is_let(curve, more, one))
                    self.assertEqual(lead(one), 1)
                    less = bundle_sum(curve, more, [(place, -1)])
                    self.assertEqual(space_size(curve, less), 0)
                    self.assertEqual(order_at(curve, one, place) + number_in(more, place), 0)

    def test_places_of_other_degrees(self):
        for curve in all_curves():
            for place in low_places(curve) + [plain_place(curve, 12), wide_place(curve, 12)]:
                if reckoning.degree(place) != 1:
                    assert_refused(self, InvalidPlace, place, first_along, curve, [], place)

    def test_bundles_of_functions(self):
        for curve in all_curves()[::2]:
            x = Function(curve, [0, 1], [], [1])
            over = reckoning.places_by_trying(curve.prime(), curve.polynomial(), [0, 1])
            number = 2 if over[0][1] == [] else 1
            poles = [((), 2), *[(place, -number) for place in over]]
            for place in places_of(curve, 1)[:3]:
                self.assertEqual(first_along(curve, poles, place), (0, x))


class ArgumentsTest(unittest.TestCase):
    def test_arguments_by_name(self):
        five = Curve(5, [1, 1, 0, 1])
        one = ([0, 1], [1])
        three, number = [((), 2), (one, 1)], Function(five, [1], [], [1])
        self.assertEqual(space_basis(bundle=three, curve=five)[0], number)
        self.assertEqual(space_size(bundle=three, curve=five), 3)
        self.assertEqual(space_parts(function=number, bundle=three, curve=five), [1, 0, 0])
        self.assertEqual(space_made(numbers=[1, 0, 0], bundle=three, curve=five), number)
        self.assertEqual(dual(bundle=three, curve=five), [((), -2), (one, -1)])
        self.assertEqual(fixed_part(bundle=[(one, 1)], curve=five), [(one, 1)])
        self.assertEqual(first_along(place=one, bundle=[(one, 1)], curve=five), (-1, number))

    def test_wrong_arguments(self):
        for curve in [one for p in PRIMES for one in curves_over(p)[p % 8::8]]:
            curves, bad = (InvalidCurve, wrong_curves()), (InvalidBundle, wrong_bundles(curve))
            good, wrong = {"curve": curve, "bundle": [((), 1)]}, {"curve": curves, "bundle": bad}
            for call in (space_basis, space_size, dual, fixed_part):
                assert_each_refused(self, call, good, wrong)
            functions = (InvalidFunction, functions_of_other_curves(curve))
            for one in plain_functions(curve)[:2]:
                assert_each_refused(self, space_parts, {**good, "function": one}, {**wrong, "function": functions})
            size = space_size(curve, [((), 1)])
            lists = (InvalidList, wrong_number_lists(curve.prime(), size))
            assert_each_refused(self, space_made, {**good, "numbers": [0] * size}, {**wrong, "numbers": lists})
            places = [place for place in low_places(curve) if reckoning.degree(place) > 1][:5]
            places = (InvalidPlace, wrong_places(curve)[::2] + places)
            assert_each_refused(self, first_along, {**good, "place": ()}, {**wrong, "place": places})

    def test_lists_of_numbers(self):
        for curve in all_curves()[::3]:
            for bundle in samples(curve, 11, 1)[::3]:
                size = space_size(curve, bundle)
                for value in wrong_number_lists(curve.prime(), size):
                    assert_refused(self, InvalidList, value, space_made, curve, bundle, value)

    def test_arguments_stay_and_told_lists_belong_to_the_caller(self):
        for curve in [one for p in PRIMES for one in curves_over(p)[::3]]:
            for bundle in samples(curve, 12, 1)[::3]:
                numbers = [1] * space_size(curve, bundle)
                one = space_made(curve, bundle, numbers)
                for call, arguments in [(space_parts, [one]), (dual, []), (fixed_part, []), (space_basis, [])]:
                    kept = repr((bundle, numbers, tops(one)))
                    told = call(curve, bundle, *arguments)
                    first = repr(told) if call is not space_basis else list(told)
                    assert_no_list_twice(self, [bundle, told])
                    for part in lists_within(told):
                        part.append(1)
                    again = call(curve, bundle, *arguments)
                    self.assertEqual(repr(again) if call is not space_basis else again, first)
                    self.assertEqual(repr((bundle, numbers, tops(one))), kept)
                numbers.clear()
                self.assertEqual(first_along(curve, bundle, ()), first_along(curve, bundle, ()))

    def test_a_changed_list_is_read_anew(self):
        for curve in all_curves()[::4]:
            bundle = [((), 4)]
            size = space_size(curve, bundle)
            bundle[0] = ((), 8)
            # The far orders 6 and 8 come in, and those of 5 and 7 that are not below that of y.
            odd = [far for far in (5, 7) if far >= len(curve.polynomial()) - 1]
            self.assertEqual(space_size(curve, bundle), size + 2 + len(odd))
            bundle.clear()
            self.assertEqual(space_size(curve, bundle), 1)


if __name__ == "__main__":
    unittest.main()
