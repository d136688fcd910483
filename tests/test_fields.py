"""Promise [16], for what curveheads.fields holds: values at places. With [2]."""

import unittest

from curveheads.curves import Curve
from curveheads.errors import InvalidCurve, InvalidPlace, InvalidSeries
from curveheads.fields import value_norm, value_product, value_quotient, value_sum, value_trace
from curveheads.functions import Function, product_of, quotient_of, sum_of
from curveheads.orders import order_at
from tests import reckoning
from tests.place_samples import branches, low_places, plain_place, some_places, wide_place, wrong_places
from tests.samples import (
    PRIMES, Stream, all_curves, assert_each_refused, assert_no_list_twice, assert_refused, curves_over,
    mixed_functions, nested, plain_functions, tops, wrong_curves)

OF_TWO = (value_sum, value_product, value_quotient)
OF_ONE = (value_norm, value_trace)


def is_wide(place):
    return place != () and place[1] is None


def mixed_values(p, place, seed, many):
    """Values at a place without a plan, nought and 1 and, at wide places, such with one part that is nought."""
    stream, most = Stream(seed), len(reckoning.modulus(place)) - 2
    found = [reckoning.nought_at(place), reckoning.number_at(place, 1), reckoning.number_at(place, p - 1)]
    for _ in range(many):
        one, other = stream.polynomial(p, most), stream.polynomial(p, most)
        found.append((one, other) if is_wide(place) else one)
    return found + [([], [1]), ([2], [1])] * is_wide(place)


def wrong_values(curve, place):
    """Values that are no values at a place."""
    p, q = curve.prime(), reckoning.modulus(place)
    parts = [[True], [False], [0], [1, 0], [p], [-1], [1 - p], [None], ["1"], [[1]], [[]], q, q + [1], [0] * 61 + [1],
             (), (1,), True, False, None, 0, 1, "", "1", {}, {0: 1}]
    never = [nested(30), curve, Function(curve, [1], [], [1]), InvalidSeries([1]), [([1], [])], ([1],), ([],),
             ([1], [], []), [[1], []], ("", ""), ((), ()), {"one": [1]}]
    if is_wide(place):
        return parts + never + [[], [1], [0, 1]] + [(one, [1]) for one in parts] + [([], one) for one in parts]
    return parts + never + [([1], []), ([], [1]), ([], [])] + [[1] * len(q)]


def places_of_all_sorts(curve):
    told = low_places(curve)
    plain, wide = [place for place in told if place[1]], [place for place in told if place[1] is None]
    return [(), plain[0], plain[-1], branches(curve)[0], wide[0], wide[-1]]


class ValuesTest(unittest.TestCase):
    def assert_value(self, told, expected):
        self.assertIs(type(told), type(expected))
        self.assertEqual(told, expected)

    def test_they_are_as_many_as_the_degree_tells(self):
        for p in (3, 5):
            for curve in curves_over(p):
                for place in [()] + [one for one in low_places(curve, 2) if reckoning.degree(one) < 5][::3]:
                    told = reckoning.all_values(p, place)
                    if len(told) > 100:
                        continue
                    self.assertEqual(len(told), p ** reckoning.degree(place))
                    for value in told:
                        self.assert_value(value_sum(curve, place, value, reckoning.nought_at(place)), value)
                    beyond = reckoning.all_values(p, (reckoning.modulus(place) + [1], []))
                    for value in beyond:
                        for one in (value, (value, []), ([1], value)):
                            if one not in told:
                                assert_refused(self, InvalidSeries, one, value_trace, curve, place, one)

    def test_all_pairs_of_values(self):
        for curve in curves_over(3):
            for place in [()] + [one for one in low_places(curve, 2) if reckoning.degree(one) < 3]:
                told = reckoning.all_values(3, place)
                for one in told:
                    for other in told:
                        added = reckoning.sum_there(3, place, one, other)
                        taken = reckoning.product_there(3, curve.polynomial(), place, one, other)
                        self.assert_value(value_sum(curve, place, one, other), added)
                        self.assert_value(value_product(curve, place, one, other), taken)
                        if other != reckoning.nought_at(place):
                            self.assert_value(value_quotient(curve, place, taken, other), one)

    def test_values_without_a_plan(self):
        for curve in all_curves():
            p, f = curve.prime(), curve.polynomial()
            for place in some_places(curve)[curve.genus() % 2::2]:
                told = mixed_values(p, place, 1, 3)
                for one in told:
                    for other in told[1::2]:
                        taken = reckoning.product_there(p, f, place, one, other)
                        self.assert_value(value_sum(curve, place, one, other), reckoning.sum_there(p, place, one, other))
                        self.assert_value(value_product(curve, place, one, other), taken)

    def test_products_and_quotients_undo_one_another(self):
        for curve in all_curves()[::3]:
            p, f = curve.prime(), curve.polynomial()
            for place in some_places(curve)[curve.genus() % 2::2]:
                told = mixed_values(p, place, 2, 3)
                for one in told:
                    for other in told[::2]:
                        if other == reckoning.nought_at(place):
                            continue
                        over = value_quotient(curve, place, one, other)
                        self.assert_value(reckoning.product_there(p, f, place, over, other), one)
                        self.assert_value(value_product(curve, place, over, other), one)
                        taken = value_product(curve, place, one, other)
                        self.assert_value(value_quotient(curve, place, taken, other), one)

    def test_nought_and_1(self):
        for curve in all_curves()[::3]:
            for place in some_places(curve)[curve.genus() % 2::2]:
                nought, number = reckoning.nought_at(place), reckoning.number_at(place, 1)
                for one in mixed_values(curve.prime(), place, 3, 3):
                    self.assert_value(value_sum(curve, place, one, nought), one)
                    self.assert_value(value_sum(curve, place, nought, one), one)
                    self.assert_value(value_product(curve, place, one, number), one)
                    self.assert_value(value_product(curve, place, one, nought), nought)
                    self.assert_value(value_quotient(curve, place, one, number), one)
                    if one != nought:
                        self.assert_value(value_quotient(curve, place, nought, one), nought)
                        self.assert_value(value_quotient(curve, place, one, one), number)

    def test_values_of_functions(self):
        for curve in all_curves()[::3]:
            p, f = curve.prime(), curve.polynomial()
            for place in places_of_all_sorts(curve):
                told = [one for one in plain_functions(curve) + mixed_functions(curve, 4, 6, 3)
                        if (not one or order_at(curve, one, place) >= 0)
                        and (not place or reckoning.rest(p, one.bottom(), place[0]))]
                for at, one in enumerate(told):
                    for other in told[at % 4::4]:
                        left, right = [reckoning.value_of(p, f, tops(part), place) for part in (one, other)]
                        added = reckoning.value_of(p, f, tops(sum_of(one, other)), place)
                        self.assert_value(value_sum(curve, place, left, right), added)
                        taken = reckoning.value_of(p, f, tops(product_of(one, other)), place)
                        self.assert_value(value_product(curve, place, left, right), taken)
                        if right == reckoning.nought_at(place):
                            continue
                        over = quotient_of(one, other)
                        if not place or reckoning.rest(p, over.bottom(), place[0]):
                            self.assert_value(value_quotient(curve, place, left, right),
                                              reckoning.value_of(p, f, tops(over), place))

    def test_arguments_by_name(self):
        curve, wide = Curve(5, [1, 1, 0, 1]), ([4, 1], None)
        self.assertEqual(value_sum(other=([4], [3]), one=([2], [2]), place=wide, curve=curve), ([1], []))
        self.assertEqual(value_product(other=([2], []), one=([], [1]), place=wide, curve=curve), ([], [2]))
        self.assertEqual(value_quotient(other=([], [1]), one=([1], []), place=wide, curve=curve), ([], [2]))

    def test_quotients_by_nought(self):
        for curve in all_curves()[::3]:
            for place in some_places(curve):
                for one in mixed_values(curve.prime(), place, 5, 2):
                    nought = reckoning.nought_at(place)
                    assert_refused(self, InvalidSeries, nought, value_quotient, curve, place, one, nought)
                for one in wrong_values(curve, place)[::5]:
                    nought = reckoning.nought_at(place)
                    assert_refused(self, InvalidSeries, one, value_quotient, curve, place, one, nought)

    def test_wrong_arguments(self):
        for curve in [one for p in PRIMES for one in curves_over(p)[p % 8::8]]:
            for place in places_of_all_sorts(curve):
                bad = wrong_values(curve, place)
                one = reckoning.number_at(place, 1)
                good = {"curve": curve, "place": place, "one": one, "other": one}
                wrong = {"one": (InvalidSeries, bad), "other": (InvalidSeries, bad)}
                for call in OF_TWO:
                    assert_each_refused(self, call, good, wrong)

    def test_wrong_curves_and_places(self):
        for curve in [one for p in PRIMES for one in curves_over(p)[1::4]]:
            wrong = {"curve": (InvalidCurve, wrong_curves()), "place": (InvalidPlace, wrong_places(curve)),
                     "one": (InvalidSeries, [None, [True], ([1],), [0]]), "other": (InvalidSeries, [False, [0], ("",)])}
            for call in OF_TWO:
                assert_each_refused(self, call, {"curve": curve, "place": (), "one": [1], "other": [2]}, wrong)

    def test_arguments_stay_and_told_lists_belong_to_the_caller(self):
        for curve in [one for p in PRIMES for one in curves_over(p)[::2]]:
            for place in some_places(curve):
                nought, number = reckoning.nought_at(place), reckoning.number_at(place, 1)
                value = mixed_values(curve.prime(), place, 6, 1)[-1]
                for call in OF_TWO:
                    for one, other in [(value, number), (number, value), (nought, value), (value, nought)]:
                        if other == nought and call == value_quotient:
                            continue
                        kept = repr((place, one, other))
                        told = call(curve, place, one, other)
                        first = repr(told)
                        assert_no_list_twice(self, [place, one, other, told])
                        for part in told if is_wide(place) else [told]:
                            part.append(1)
                        self.assertEqual(repr((place, one, other)), kept)
                        self.assertEqual(repr(call(curve, place, one, other)), first)


class NormsAndTracesTest(unittest.TestCase):
    def test_all_values_of_low_places(self):
        for p in (3, 5):
            for curve in curves_over(p):
                for place in [()] + [one for one in low_places(curve) if reckoning.degree(one) < 4][::2]:
                    self.assert_told(curve, place, reckoning.all_values(p, place)[:30])

    def test_values_without_a_plan(self):
        for curve in all_curves():
            for place in places_of_all_sorts(curve):
                self.assert_told(curve, place, mixed_values(curve.prime(), place, 7, 4))

    def assert_told(self, curve, place, values):
        """The product and the sum of the powers with the exponents p ** k, each power being taken by itself."""
        p, f = curve.prime(), curve.polynomial()
        for value in values:
            product, total = reckoning.number_at(place, 1), reckoning.nought_at(place)
            for one in reckoning.conjugates(p, f, place, value):
                product = reckoning.product_there(p, f, place, product, one)
                total = reckoning.sum_there(p, place, total, one)
            norm, trace = value_norm(curve, place, value), value_trace(curve, place, value)
            self.assertEqual((type(norm), type(trace)), (int, int))
            self.assertTrue(0 <= norm < p and 0 <= trace < p)
            self.assertEqual(reckoning.number_at(place, norm), product)
            self.assertEqual(reckoning.number_at(place, trace), total)

    def test_places_of_the_powers_12(self):
        for curve in all_curves():
            p, f = curve.prime(), curve.polynomial()
            for place in (plain_place(curve, 12), wide_place(curve, 12)):
                exponent = sum(p ** k for k in range(reckoning.degree(place)))
                for value in mixed_values(p, place, 8, 1)[2:]:
                    told = reckoning.taken_there(p, f, place, value, exponent)
                    self.assertEqual(reckoning.number_at(place, value_norm(curve, place, value)), told)
            self.assert_told(curve, plain_place(curve, 12), mixed_values(p, plain_place(curve, 12), 8, 1)[3:])

    def test_numbers(self):
        for curve in all_curves()[::3]:
            p = curve.prime()
            for place in some_places(curve):
                degree = reckoning.degree(place)
                for number in range(p):
                    value = reckoning.number_at(place, number)
                    self.assertEqual(value_norm(curve, place, value), number ** degree % p)
                    self.assertEqual(value_trace(curve, place, value), number * degree % p)

    def test_norms_multiply_and_traces_add_up(self):
        for curve in all_curves()[::3]:
            p = curve.prime()
            for place in some_places(curve)[curve.genus() % 2::2]:
                told = mixed_values(p, place, 9, 1)
                norms = [value_norm(curve, place, one) for one in told]
                traces = [value_trace(curve, place, one) for one in told]
                for at, one in enumerate(told):
                    self.assertIs(norms[at] == 0, one == reckoning.nought_at(place))
                    for by in range(at, len(told), 2):
                        taken = value_product(curve, place, one, told[by])
                        added = value_sum(curve, place, one, told[by])
                        self.assertEqual(value_norm(curve, place, taken), norms[at] * norms[by] % p)
                        self.assertEqual(value_trace(curve, place, added), (traces[at] + traces[by]) % p)

    def test_y_at_wide_places(self):
        for curve in all_curves():
            p = curve.prime()
            for q, w in low_places(curve, 1):
                if w is None:
                    value = sum(number * pow(-q[0], at, p) for at, number in enumerate(curve.polynomial())) % p
                    self.assertEqual(value_norm(curve, (q, w), ([], [1])), -value % p)
                    self.assertEqual(value_trace(curve, (q, w), ([], [1])), 0)
                    self.assertEqual(value_trace(curve, (q, w), ([1], [1])), 2)

    def test_arguments_by_name(self):
        curve, wide = Curve(5, [1, 1, 0, 1]), ([4, 1], None)
        self.assertEqual(value_norm(value=([], [1]), place=wide, curve=curve), 2)
        self.assertEqual(value_trace(value=([1], [2]), place=wide, curve=curve), 2)

    def test_wrong_arguments(self):
        for curve in [one for p in PRIMES for one in curves_over(p)[p % 8::8]]:
            for place in places_of_all_sorts(curve):
                good = {"curve": curve, "place": place, "value": reckoning.number_at(place, 1)}
                for call in OF_ONE:
                    assert_each_refused(self, call, good, {"value": (InvalidSeries, wrong_values(curve, place))})

    def test_wrong_curves_and_places(self):
        for curve in [one for p in PRIMES for one in curves_over(p)[1::4]]:
            wrong = {"curve": (InvalidCurve, wrong_curves()), "place": (InvalidPlace, wrong_places(curve)),
                     "value": (InvalidSeries, [None, [True], ([1],), [0]])}
            for call in OF_ONE:
                assert_each_refused(self, call, {"curve": curve, "place": (), "value": [1]}, wrong)

    def test_arguments_stay(self):
        for curve in curves_over(5):
            for place in some_places(curve):
                for value in mixed_values(5, place, 10, 2):
                    kept = repr((place, value))
                    for call in OF_ONE:
                        self.assertEqual(call(curve, place, value), call(curve, place, value))
                    self.assertEqual(repr((place, value)), kept)


if __name__ == "__main__":
    unittest.main()
