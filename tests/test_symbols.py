"""Promises [49] and [50]: the symbols of two functions. With [2]."""

import unittest

from curveheads.curves import Curve
from curveheads.errors import InvalidFunction, InvalidPlace, Unlike
from curveheads.fields import value_norm
from curveheads.functions import Function, less_of, power_of, product_of, quotient_of, sum_of
from curveheads.series import value_at
from curveheads.symbols import symbol, symbols
from tests import reckoning
from tests.bundle_samples import place_key, places_to_take
from tests.head_samples import orders_at, sign_taken
from tests.place_samples import branches, low_places, plain_place, some_places, wide_place, wrong_places
from tests.samples import (
    PRIMES, Stream, all_curves, assert_each_refused, assert_no_list_twice, assert_refused, curves_over, lists_within,
    mixed_functions, plain_functions, tops, trimmed, wrong_functions)
from tests.space_samples import low_functions


def symbol_by_powers(curve, one, other, place):
    """The symbol by both products, whose quotient has the order 0."""
    a, b = orders_at(curve, place, one), orders_at(curve, place, other)
    found = quotient_of(power_of(one, b), power_of(other, a))
    number = value_norm(curve, place, value_at(curve, found, place))
    odd = a % 2 and b % 2 and reckoning.degree(place) % 2
    return -number % curve.prime() if odd else number


def with_orders(curve, place, seed):
    """Functions that have orders of all sorts at a place."""
    one, other = [one for one in mixed_functions(curve, seed, 12, 2) + plain_functions(curve) if one][:2]
    return [product_of(one, sign_taken(curve, place, order)) for order in (0, 1, -2, -3, 2)] + [other]


def without_high_primes(curve, seed, many):
    """Functions whose norms and bottoms have no prime factors of a power above 12."""
    return [one for one in low_functions(curve, seed, many) if len(one.top()) < 6]


class SymbolTest(unittest.TestCase):
    def test_places_of_all_sorts(self):
        many = 0
        for at, curve in enumerate(all_curves()):
            for place in some_places(curve)[at % 2:-2:2] + branches(curve)[:1]:
                if reckoning.degree(place) > 4:
                    continue
                told = with_orders(curve, place, at)
                for one, other in zip(told, told[1:] + told[:1]):
                    found = symbol(one, other, place)
                    self.assertIs(type(found), int)
                    self.assertEqual(found, symbol_by_powers(curve, one, other, place))
                    many += found != 1
        self.assertGreater(many, 300)

    def test_even_and_odd_orders(self):
        # At a place of an odd degree the sign turns if both orders are odd; t itself has the symbol -1 with itself.
        for curve in all_curves():
            p = curve.prime()
            for place in places_to_take(curve):
                t = sign_taken(curve, place, 1)
                sign = -1 if reckoning.degree(place) % 2 else 1
                for a in (-3, -2, 0, 1, 2):
                    for b in (-1, 0, 1, 2):
                        wanted = sign if a % 2 and b % 2 else 1
                        told = symbol(power_of(t, a), power_of(t, b), place)
                        self.assertEqual(told, wanted % p)

    def test_numbers(self):
        for curve in all_curves():
            p = curve.prime()
            for place in places_to_take(curve):
                one = product_of(sign_taken(curve, place, 3), Function(curve, [1], [], [1]))
                for number in range(1, p):
                    two = Function(curve, [number], [], [1])
                    wanted = pow(number, 3 * reckoning.degree(place), p)
                    self.assertEqual(symbol(two, one, place), wanted)
                    self.assertEqual(symbol(one, two, place), pow(wanted, -1, p))
                    self.assertEqual(symbol(two, two, place), 1)

    def test_places_of_the_power_12(self):
        for curve in [one for p in PRIMES for one in curves_over(p)[1::4]]:
            p, f = curve.prime(), curve.polynomial()
            for place in (plain_place(curve, 12), wide_place(curve, 12)):
                t = Function(curve, place[0], [], [1])
                one = [one for one in mixed_functions(curve, 1, 9, 3) if one and orders_at(curve, place, one) == 0][0]
                value, total = reckoning.value_of(p, f, tops(one), place), reckoning.number_at(place, 1)
                for part in reckoning.conjugates(p, f, place, value):
                    total = reckoning.product_there(p, f, place, total, part)
                wanted = sum(total[0] if place[1] is None else total)
                self.assertEqual(symbol(one, t, place), wanted)
                self.assertEqual(symbol(power_of(t, -2), one, place), wanted * wanted % p)

    def test_where_neither_has_a_zero_or_a_pole(self):
        for at, curve in enumerate(all_curves()):
            one, other = [one for one in mixed_functions(curve, at, 9, 2) if one][:2]
            for place in low_places(curve):
                if orders_at(curve, place, one) == 0 == orders_at(curve, place, other):
                    self.assertEqual(symbol(one, other, place), 1)


class SymbolsTest(unittest.TestCase):
    def test_all_symbols(self):
        many = 0
        for at, curve in enumerate(all_curves()):
            p = curve.prime()
            told = without_high_primes(curve, at, 8)
            for one, other in zip(told, told[3:]):
                found = symbols(one, other)
                self.assertIs(type(found), list)
                self.assertTrue(all(1 < number < p for _, number in found))
                self.assertEqual(found, sorted(found, key=lambda row: place_key(row[0])))
                total = 1
                for _, number in found:
                    total = total * number % p
                self.assertEqual(total, 1)
                numbers = {repr(place): number for place, number in found}
                self.assertEqual(len(numbers), len(found))
                for place in [(), *low_places(curve)[:12], *branches(curve)] + [place for place, _ in found]:
                    self.assertEqual(numbers.get(repr(place), 1), symbol(one, other, place))
                    if reckoning.degree(place) < 3:
                        self.assertEqual(numbers.get(repr(place), 1), symbol_by_powers(curve, one, other, place))
                many += len(found)
        self.assertGreater(many, 400)

    def test_products(self):
        for at, curve in enumerate(all_curves()):
            p = curve.prime()
            told = [one for one in mixed_functions(curve, at, 6, 2) + plain_functions(curve)[1:] if one]
            one, other, more = told[0], told[1], told[2 + at % 4]
            for place in places_to_take(curve)[at % 2::2]:
                both = symbol(one, more, place) * symbol(other, more, place) % p
                self.assertEqual(symbol(product_of(one, other), more, place), both)
                self.assertEqual(symbol(more, product_of(one, other), place), pow(both, -1, p))
                self.assertEqual(symbol(more, one, place) * symbol(one, more, place) % p, 1)

    def test_a_function_with_its_opposite(self):
        for at, curve in enumerate(all_curves()):
            nought = Function(curve, [], [], [1])
            for one in without_high_primes(curve, at, 4):
                opposite = less_of(nought, one)
                self.assertEqual(symbols(one, opposite), [])
                for place in places_to_take(curve)[:4]:
                    self.assertEqual(symbol(one, opposite, place), 1)

    def test_two_functions_with_the_sum_1(self):
        for at, curve in enumerate(all_curves()):
            number = Function(curve, [1], [], [1])
            for one in [one for one in mixed_functions(curve, at, 4, 3) + plain_functions(curve) if one]:
                other = less_of(number, one)
                if other:
                    for place in places_to_take(curve):
                        self.assertEqual(symbol(one, other, place), 1)

    def test_numbers(self):
        for curve in all_curves():
            p = curve.prime()
            x = Function(curve, [0, 1], [], [1])
            over = reckoning.places_by_trying(p, curve.polynomial(), [0, 1])
            for number in range(1, p):
                two = Function(curve, [number], [], [1])
                self.assertEqual(symbols(two, two), [])
                wanted = [((), pow(number, -2, p))]
                for place in over:
                    wanted.append((place, pow(number, reckoning.degree(place) * (2 if place[1] == [] else 1), p)))
                self.assertEqual(symbols(two, x), [row for row in wanted if row[1] != 1])

    def test_sums_stay_at_the_told_places(self):
        for at, curve in enumerate(all_curves()[::2]):
            one, other = without_high_primes(curve, at, 6)[-2:]
            told = [place for place, _ in symbols(one, other)]
            for place in told:
                self.assertTrue(orders_at(curve, place, one) or orders_at(curve, place, other))


class ArgumentsTest(unittest.TestCase):
    def test_arguments_by_name(self):
        curve = Curve(5, [1, 1, 0, 1])
        x, y = Function(curve, [0, 1], [], [1]), Function(curve, [], [1], [1])
        self.assertEqual(symbol(place=([1, 1, 0, 1], []), other=x, one=y), 4)
        self.assertEqual(symbols(other=y, one=x), [(([0, 1], [4]), 4), (([1, 1, 0, 1], []), 4)])

    def test_wrong_arguments(self):
        for curve in [one for p in PRIMES for one in curves_over(p)[p % 8::8]]:
            x = Function(curve, [0, 1], [], [1])
            wrong = (InvalidFunction, wrong_functions() + [Function(curve, [], [], [1])])
            good = {"one": x, "other": sum_of(x, x)}
            assert_each_refused(self, symbols, good, {"one": wrong, "other": wrong})
            assert_each_refused(self, symbol, {**good, "place": ()}, {
                "one": wrong, "other": wrong, "place": (InvalidPlace, wrong_places(curve)[::2])})

    def test_functions_of_unlike_curves(self):
        for curve in all_curves()[::3]:
            x = Function(curve, [0, 1], [], [1])
            for other_curve in (Curve(curve.prime(), [1, 1]), Curve(3 if curve.prime() > 3 else 5, [1, 1])):
                other, nought = Function(other_curve, [0, 1], [], [1]), Function(other_curve, [], [], [1])
                if other_curve == curve:
                    continue
                for place in ((), None, ([0, 1], True)):
                    assert_refused(self, Unlike, other, symbol, x, other, place)
                    assert_refused(self, InvalidFunction, nought, symbol, x, nought, place)
                assert_refused(self, Unlike, other, symbols, x, other)
                assert_refused(self, InvalidFunction, nought, symbols, nought, x)
            alike = Function(Curve(curve.prime(), curve.polynomial()), [1, 1], [], [1])
            self.assertEqual(symbols(x, alike), symbols(x, Function(curve, [1, 1], [], [1])))

    def test_arguments_stay_and_told_lists_belong_to_the_caller(self):
        for at, curve in enumerate(all_curves()[::3]):
            one, other = without_high_primes(curve, at, 6)[-2:]
            kept = repr((tops(one), tops(other)))
            told = symbols(one, other)
            first = repr(told)
            assert_no_list_twice(self, told)
            for place, number in told:
                before = repr(place)
                self.assertEqual(symbol(one, other, place), number)
                self.assertEqual(repr(place), before)
            for part in lists_within(told):
                part.append(1)
            self.assertEqual(repr(symbols(one, other)), first)
            self.assertEqual(repr((tops(one), tops(other))), kept)

    def test_a_changed_place_is_read_anew(self):
        for curve in all_curves()[::4]:
            (q, w), stream = plain_place(curve, 12), Stream(1)
            one = Function(curve, stream.full_polynomial(curve.prime(), 2), [1], [1])
            first = symbol(one, Function(curve, q, [], [1]), (q, w))
            place = (list(q), list(w))
            self.assertEqual(symbol(one, Function(curve, q, [], [1]), place), first)
            place[1][:] = trimmed([-number % curve.prime() for number in w])
            turned = symbol(one, Function(curve, q, [], [1]), place)
            self.assertEqual(turned, symbol(one, Function(curve, q, [], [1]), (q, place[1])))
            place[1].append(0)
            assert_refused(self, InvalidPlace, place, symbol, one, one, place)


if __name__ == "__main__":
    unittest.main()
