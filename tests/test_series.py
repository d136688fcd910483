"""Promises [16], for what curveheads.series holds of it, and [17]: values and series at places. With [2]."""

import unittest

from curveheads.curves import Curve
from curveheads.errors import InvalidCurve, InvalidFunction, InvalidNumber, InvalidPlace, InvalidSeries
from curveheads.fields import value_product, value_quotient, value_sum
from curveheads.functions import Function, less_of, product_of, quotient_of, sum_of
from curveheads.orders import order_at
from curveheads.series import begun, is_series, local_sign, series, value_at
from tests import reckoning
from tests.place_samples import branches, low_places, plain_place, some_places, wide_place, wrong_places
from tests.samples import (
    PRIMES, Stream, all_curves, assert_each_refused, assert_no_list_twice, assert_refused, curves_over,
    mixed_functions, nested, never_whole, plain_functions, tops, wrong_curves, wrong_functions)


def places_of_all_sorts(curve):
    told = low_places(curve)
    plain, wide = [place for place in told if place[1]], [place for place in told if place[1] is None]
    return [(), plain[0], plain[-1], branches(curve)[0], wide[0], wide[-1]]


def begun_functions(curve, place):
    """Functions that begin at a near place with zeros and poles of several orders."""
    p, stream = curve.prime(), Stream(11)
    q, w = place
    found = []
    for often in [(0, 0, 1), (2, 1, 0), (1, 2, 0), (0, 1, 2), (1, 0, 3), (0, 0, 0)]:
        told = [reckoning.times(p, stream.full_polynomial(p, 1), reckoning.taken(p, q, times)) for times in often]
        found.extend([Function(curve, *told), Function(curve, told[0], [], told[2]), Function(curve, [], *told[1:])])
    if w:
        for count in (1, 2, 4):
            root = reckoning.less(p, [], reckoning.lifted(p, curve.polynomial(), place, count))
            found.extend([Function(curve, root, [1], bottom) for bottom in ([1], reckoning.taken(p, q, 2))])
    return found


def mixed_series(curve, place, seed, order, count):
    """A series of some order at a place."""
    p, stream, most = curve.prime(), Stream(seed), len(reckoning.modulus(place)) - 2
    values = [stream.polynomial(p, most) for _ in range(2 * count)]
    values[0] = values[0] or [1]
    if place and place[1] is None:
        return order, list(zip(values[::2], values[1::2]))
    return order, [values[0]] + values[1:count]


def wrong_series(curve, place):
    """Values that are no series at a place."""
    one, nought = reckoning.number_at(place, 1), reckoning.nought_at(place)
    q, other = reckoning.modulus(place), [1] if isinstance(one, tuple) else ([1], [])
    found = [
        None, True, 0, "", "(0, [[1]])", [], (), {}, nested(30), curve, Function(curve, [1], [], [1]),
        InvalidSeries(()), [0, [one]], (0,), (0, [one], 1), (0, [one], []), ([one], 0), (0, (one,)), (0, one, one),
        (0, []), (0, None), (0, True), (0, "1"), (0, {0: one}), (0, [nought]), (0, [nought, one]), (0, [one, None]),
        (0, [one, True]), (0, [one, 1]), (0, [one, [0]]), (0, [one, [True]]), (0, [one, [1, 0]]), (0, [one, other]),
        (0, [other]), (0, [one, [curve.prime()]]), (0, [one, [-1]]), (0, [one, q]), (0, [one, (q, [])]), (0, [one] * 25),
        (0, [one, ([], q)]), (0, [one, ([True], [])]), (0, [one, ([], [0])]), (0, [one, ["1"]]), (0, [one, ([1],)]),
        (0, [one, [[], []]]), (41, [one]), (-41, [one]), (10 ** 29, [one]), (0, [one, curve]), (0, [one, nested(28)])]
    return found + [(order, [one]) for order in never_whole()]


class ValueAtTest(unittest.TestCase):
    def assert_value(self, curve, one, place):
        """The value is the only one from which the function differs by nought or by a function of an order above 0."""
        p, f = curve.prime(), curve.polynomial()
        told = value_at(curve, one, place)
        if not one or order_at(curve, one, place) > 0:
            self.assertEqual(told, reckoning.nought_at(place))
            self.assertIs(type(told), type(reckoning.nought_at(place)))
        elif order_at(curve, one, place) < 0:
            self.assertIsNone(told)
        else:
            self.assertIs(type(told), type(reckoning.nought_at(place)))
            self.assertNotEqual(told, reckoning.nought_at(place))
            for part in told if isinstance(told, tuple) else [told]:
                self.assertLess(len(part), len(reckoning.modulus(place)))
            self.assertTrue(reckoning.begins_like(p, f, tops(one), place, (0, [told])))

    def test_functions_without_a_plan(self):
        for curve in all_curves():
            for one in plain_functions(curve) + mixed_functions(curve, 1, 5, 3):
                for place in some_places(curve)[curve.genus() % 2::2]:
                    self.assert_value(curve, one, place)

    def test_functions_whose_bottom_is_a_multiple(self):
        for curve in all_curves()[::2]:
            for place in places_of_all_sorts(curve)[1:]:
                for one in begun_functions(curve, place):
                    self.assert_value(curve, one, place)

    def test_all_sorts_of_orders_are_among_these(self):
        for curve in curves_over(7):
            for place in places_of_all_sorts(curve)[1:]:
                told = [order_at(curve, one, place) for one in begun_functions(curve, place)]
                self.assertTrue(min(told) < 0 < max(told) and 0 in told)
        plain = [place for place in low_places(curve) if place[1]][0]
        told = [one for one in begun_functions(curve, plain) if order_at(curve, one, plain) == 0]
        self.assertTrue([one for one in told if not reckoning.rest(7, one.bottom(), plain[0])])

    def test_where_the_bottom_is_no_multiple(self):
        for curve in all_curves():
            p, f = curve.prime(), curve.polynomial()
            for one in plain_functions(curve) + mixed_functions(curve, 2, 6, 4):
                for place in places_of_all_sorts(curve)[1:]:
                    if reckoning.rest(p, one.bottom(), place[0]):
                        self.assertEqual(value_at(curve, one, place), reckoning.value_of(p, f, tops(one), place))

    def test_nought_and_numbers(self):
        for curve in all_curves():
            for place in some_places(curve):
                for number in range(curve.prime()):
                    one = Function(curve, [number] if number else [], [], [1])
                    self.assertEqual(value_at(curve, one, place), reckoning.number_at(place, number))

    def test_sums_products_and_quotients(self):
        for curve in all_curves()[::3]:
            for place in places_of_all_sorts(curve)[1:]:
                told = plain_functions(curve)[::2] + begun_functions(curve, place)[::2]
                told = [one for one in told if value_at(curve, one, place) is not None]
                for at, one in enumerate(told):
                    for other in told[at % 3::3]:
                        left, right = value_at(curve, one, place), value_at(curve, other, place)
                        self.assertEqual(value_at(curve, sum_of(one, other), place),
                                         value_sum(curve, place, left, right))
                        self.assertEqual(value_at(curve, product_of(one, other), place),
                                         value_product(curve, place, left, right))
                        if right != reckoning.nought_at(place):
                            self.assertEqual(value_at(curve, quotient_of(one, other), place),
                                             value_quotient(curve, place, left, right))

    def test_wrong_arguments(self):
        for curve in [one for p in PRIMES for one in curves_over(p)[2::4]]:
            p = curve.prime()
            functions = wrong_functions() + plain_functions(Curve(p, [1, 1])) + [
                Function(Curve(3 if p > 3 else 5, [1, 1]), [1], [], [1])]
            wrong = {"curve": (InvalidCurve, wrong_curves()), "function": (InvalidFunction, functions),
                     "place": (InvalidPlace, wrong_places(curve)[::2])}
            for one in plain_functions(curve)[::5]:
                assert_each_refused(self, value_at, {"curve": curve, "function": one, "place": ()}, wrong)

    def test_arguments_stay_and_told_lists_belong_to_the_caller(self):
        for curve in curves_over(5):
            for place in some_places(curve):
                for one in plain_functions(curve) + mixed_functions(curve, 3, 2, 2):
                    kept = repr((tops(one), place))
                    told = value_at(curve, one, place)
                    first = repr(told)
                    assert_no_list_twice(self, [place, told])
                    if told is not None:
                        for part in told if isinstance(told, tuple) else [told]:
                            part.append(1)
                    self.assertEqual(repr(value_at(curve, one, place)), first)
                    self.assertEqual(repr((tops(one), place)), kept)


class LocalSignTest(unittest.TestCase):
    def test_signs(self):
        for curve in all_curves():
            for place in some_places(curve):
                told = local_sign(curve, place)
                wanted = reckoning.least(curve.prime(), reckoning.sign(curve.polynomial(), place))
                self.assertEqual(tops(told), wanted)
                self.assertEqual(told.curve(), curve)
                self.assertEqual(order_at(curve, told, place), 1)

    def test_the_far_sign_is_a_quotient(self):
        for curve in all_curves():
            y = Function(curve, [], [1], [1])
            high = Function(curve, [0] * curve.genus() + [1], [], [1])
            self.assertEqual(local_sign(curve, ()), quotient_of(high, y))

    def test_wrong_arguments(self):
        for curve in [one for p in PRIMES for one in curves_over(p)[1::4]]:
            wrong = {"curve": (InvalidCurve, wrong_curves()), "place": (InvalidPlace, wrong_places(curve))}
            assert_each_refused(self, local_sign, {"curve": curve, "place": ()}, wrong)


class SeriesTest(unittest.TestCase):
    def assert_series(self, curve, one, place, count):
        told = series(curve, one, place, count)
        self.assertIs(type(told), tuple)
        self.assertEqual(told[0], reckoning.order(curve.prime(), curve.polynomial(), tops(one), place))
        self.assertEqual(len(told[1]), count)
        self.assertIs(is_series(curve, place, told), True)
        self.assertTrue(reckoning.begins_like(curve.prime(), curve.polynomial(), tops(one), place, told))
        return told

    def test_functions_without_a_plan(self):
        for curve in all_curves():
            for at, one in enumerate(plain_functions(curve)[1:] + mixed_functions(curve, 4, 3, 3)):
                for by, place in enumerate(some_places(curve)[:-2]):
                    if (at + by) % 3 == 0 and one:
                        self.assert_series(curve, one, place, [1, 2, 3, 4, 6][(at + by) % 5])

    def test_functions_with_zeros_and_poles_there(self):
        for curve in all_curves()[::2]:
            for place in places_of_all_sorts(curve)[1:]:
                for at, one in enumerate(begun_functions(curve, place)[curve.genus() % 2::2]):
                    if one:
                        self.assert_series(curve, one, place, 1 + at % 4)

    def test_primes_of_the_power_12(self):
        for curve in [one for p in PRIMES for one in curves_over(p)[1::4]]:
            one, other = mixed_functions(curve, 5, 2, 3)
            for place in (plain_place(curve, 12), wide_place(curve, 12)):
                for function in (one, product_of(other, local_sign(curve, place))):
                    if function:
                        self.assert_series(curve, function, place, 2)

    def test_the_first_values_do_not_hang_on_the_count(self):
        for curve in all_curves()[::3]:
            for at, place in enumerate(places_of_all_sorts(curve)):
                for by, one in enumerate(plain_functions(curve)[3:]):
                    order, values = series(curve, one, place, 24)
                    self.assertEqual(len(values), 24)
                    for count in (1, 2, 5, 23):
                        self.assertEqual(series(curve, one, place, count), (order, values[:count]))
                    if (at + by + curve.prime()) % 10 == 0:
                        self.assert_series(curve, one, place, 24)

    def test_the_far_place_by_hand(self):
        curve = Curve(3, [1, 1])
        x, y = Function(curve, [0, 1], [], [1]), Function(curve, [], [1], [1])
        # The genus is 0: the sign is 1 / y, and x is y * y less 1.
        self.assertEqual(series(curve, x, (), 4), (-2, [[1], [], [2], []]))
        self.assertEqual(series(curve, y, (), 2), (-1, [[1], []]))
        self.assertEqual(series(curve, quotient_of(y, x), (), 6), (1, [[1], [], [1], [], [1], []]))

    def test_orders_of_40_and_less(self):
        for curve in all_curves()[::7]:
            for at, place in enumerate(places_of_all_sorts(curve)):
                for order in (-40, 40, [-39, -1, 39][at % 3]):
                    told = mixed_series(curve, place, order, order, 3)
                    self.assertIs(is_series(curve, place, told), True)
                    one = begun(curve, place, told)
                    self.assertEqual(tops(one), reckoning.sum_of_series(
                        curve.prime(), curve.polynomial(), place, told))
                    self.assertEqual(series(curve, one, place, 3), told)

    def test_a_function_less_what_is_begun(self):
        for curve in all_curves()[::3]:
            for place in some_places(curve):
                for one in plain_functions(curve)[1::2] + mixed_functions(curve, 6, 1, 2):
                    if not one:
                        continue
                    for count in (1, 5):
                        told = series(curve, one, place, count)
                        left = less_of(one, begun(curve, place, told))
                        if left:
                            self.assertGreaterEqual(order_at(curve, left, place), told[0] + count)

    def test_the_value_stands_first(self):
        for curve in all_curves()[::3]:
            for place in some_places(curve):
                for one in plain_functions(curve)[1:]:
                    order, values = series(curve, one, place, 2)
                    if order == 0:
                        self.assertEqual(value_at(curve, one, place), values[0])
                    turned_to_0 = quotient_of(one, begun(curve, place, (order, [reckoning.number_at(place, 1)])))
                    self.assertEqual(value_at(curve, turned_to_0, place), values[0])

    def test_arguments_by_name(self):
        five = Curve(5, [1, 1, 0, 1])
        told = series(count=4, place=([0, 1], [1]), function=Function(five, [], [1], [1]), curve=five)
        self.assertEqual(told, (0, [[1], [3], [3], [4]]))
        self.assertEqual(begun(told=(0, [[2]]), place=([0, 1], [1]), curve=five), Function(five, [2], [], [1]))
        self.assertIs(is_series(value=(0, [[2]]), place=([0, 1], [1]), curve=five), True)
        self.assertEqual(value_at(place=(), function=Function(five, [2], [], [1]), curve=five), [2])
        self.assertEqual(tops(local_sign(place=([0, 1], [1]), curve=five)), ([0, 1], [], [1]))

    def test_wrong_arguments(self):
        for curve in [one for p in PRIMES for one in curves_over(p)[3::4]]:
            functions = wrong_functions() + plain_functions(Curve(curve.prime(), [1, 1]))
            functions.append(Function(curve, [], [], [1]))
            counts = never_whole() + [0, -1, 25, 10 ** 29, -10 ** 29]
            wrong = {"curve": (InvalidCurve, wrong_curves()), "function": (InvalidFunction, functions),
                     "place": (InvalidPlace, wrong_places(curve)[::2]), "count": (InvalidNumber, counts)}
            good = {"curve": curve, "function": Function(curve, [1], [], [1]), "place": (), "count": 24}
            assert_each_refused(self, series, good, wrong)

    def test_nought_is_refused_ahead_of_the_place(self):
        for curve in all_curves()[::4]:
            nought = Function(curve, [], [], [1])
            for place in [(), None, *wrong_places(curve)[::9]]:
                assert_refused(self, InvalidFunction, nought, series, curve, nought, place, 0)

    def test_arguments_stay_and_told_lists_belong_to_the_caller(self):
        for curve in curves_over(3):
            for place in some_places(curve):
                for one in plain_functions(curve)[1:]:
                    kept = repr((tops(one), place))
                    told = series(curve, one, place, 3)
                    first = repr(told)
                    assert_no_list_twice(self, [place, told])
                    for value in told[1]:
                        for part in value if isinstance(value, tuple) else [value]:
                            part.append(1)
                    told[1].append([1])
                    self.assertEqual(repr(series(curve, one, place, 3)), first)
                    self.assertEqual(repr((tops(one), place)), kept)


class BegunTest(unittest.TestCase):
    def test_sums(self):
        for curve in all_curves():
            p, f = curve.prime(), curve.polynomial()
            for at, place in enumerate(some_places(curve)[:-2]):
                for order, count in [(-3, 4), (0, 1), (1, 3), (-1, 2)][at % 2::2]:
                    told = mixed_series(curve, place, order + count, order, count)
                    one = begun(curve, place, told)
                    self.assertEqual(one.curve(), curve)
                    self.assertEqual(tops(one), reckoning.sum_of_series(p, f, place, told))
                    self.assertEqual(order_at(curve, one, place), order)

    def test_series_and_begun_undo_one_another(self):
        for curve in all_curves()[::2]:
            for place in some_places(curve):
                for order, count in [(-2, 1), (0, 4), (5, 3)]:
                    told = mixed_series(curve, place, 3 + order, order, count)
                    self.assertEqual(series(curve, begun(curve, place, told), place, count), told)

    def test_24_values(self):
        for curve in all_curves()[::3]:
            for place in places_of_all_sorts(curve):
                told = mixed_series(curve, place, 7, -11, 24)
                self.assertIs(is_series(curve, place, told), True)
                self.assertEqual(series(curve, begun(curve, place, told), place, 24), told)

    def test_wrong_series(self):
        for curve in [one for p in PRIMES for one in curves_over(p)[p % 4::4]]:
            for place in places_of_all_sorts(curve):
                wrong = wrong_series(curve, place)
                for value in wrong:
                    self.assertIs(is_series(curve, place, value), False, (place, value))
                good = {"curve": curve, "place": place, "told": (0, [reckoning.number_at(place, 1)])}
                assert_each_refused(self, begun, good, {"told": (InvalidSeries, wrong)})

    def test_values_of_another_place(self):
        for curve in all_curves()[::3]:
            told = low_places(curve)
            plain, wide = [one for one in told if one[1]][0], [one for one in told if one[1] is None][0]
            self.assertIs(is_series(curve, plain, (0, [([1], [])])), False)
            self.assertIs(is_series(curve, wide, (0, [[1]])), False)
            self.assertIs(is_series(curve, (), (0, [[1, 1]])), False)
            self.assertIs(is_series(curve, wide, (0, [([], []), ([1], [])])), False)
            self.assertIs(is_series(curve, wide, (0, [([], [1]), ([], [])])), True)
            self.assertIs(is_series(curve, (), (0, [[1], [], []])), True)

    def test_wrong_curves_and_places(self):
        for curve in [one for p in PRIMES for one in curves_over(p)[p % 4::4]]:
            places = wrong_places(curve)[::2]
            good = {"curve": curve, "place": (), "told": (0, [[1]])}
            wrong = {"curve": (InvalidCurve, wrong_curves()), "place": (InvalidPlace, places)}
            assert_each_refused(self, begun, good, {**wrong, "told": (InvalidSeries, [None, (0, []), [0, [[1]]]])})
            for value in (None, (0, [[1]])):
                assert_each_refused(self, is_series, {"curve": curve, "place": (), "value": value}, wrong)

    def test_arguments_stay(self):
        for curve in curves_over(5):
            for place in some_places(curve):
                told = mixed_series(curve, place, 8, -2, 3)
                kept = repr((place, told))
                first = begun(curve, place, told)
                self.assertIs(is_series(curve, place, told), True)
                self.assertEqual(repr((place, told)), kept)
                told[1].clear()
                self.assertEqual(reckoning.order(5, curve.polynomial(), tops(first), place), -2)
                assert_refused(self, InvalidSeries, told, begun, curve, place, told)


if __name__ == "__main__":
    unittest.main()
