"""Promises [13] and [14]: places, their degrees, and lists of them. With [2] for all of these."""

import unittest

from curveheads.curves import Curve
from curveheads.errors import InvalidCurve, InvalidNumber, InvalidPlace, InvalidPolynomial
from curveheads.places import is_place, place_degree, place_turned, places_of, places_over
from tests import reckoning
from tests.place_samples import branches, low_places, plain_place, some_places, wide_place, wrong_places
from tests.samples import (
    PRIMES, all_curves, assert_each_refused, assert_no_list_twice, assert_refused, curves_over, first_primes,
    is_one_prime, never_whole, product, wrong_curves, wrong_polynomials)


def degrees_let(p):
    return (1, 2, 3) if p <= 7 else (1, 2)


class SamplesTest(unittest.TestCase):
    def test_all_sorts_are_among_the_samples(self):
        for curve in all_curves():
            told = some_places(curve)
            self.assertTrue(() in told and branches(curve))
            for sort in (lambda w: w is None, lambda w: w == [], lambda w: bool(w)):
                self.assertTrue([place for place in told[1:] if sort(place[1])])
            for power in (12, 13):
                for q, w in (plain_place(curve, power), wide_place(curve, power)):
                    self.assertTrue(len(q) == power + 1 and is_one_prime(curve.prime(), q))
                    self.assertIs(reckoning.is_no_square(curve.prime(), q, curve.polynomial()), w is None)


class IsPlaceTest(unittest.TestCase):
    def test_all_pairs_of_low_powers(self):
        for p, most in [(3, 3), (5, 2), (7, 1), (11, 1), (13, 1)]:
            for curve in curves_over(p):
                for power in range(1, most + 1):
                    rests = [value for value in reckoning.all_values(p, ([0] * power + [1], []))] + [None]
                    for q in reckoning.kept_primes(p, power):
                        told = reckoning.places_by_trying(p, curve.polynomial(), q)
                        for w in rests:
                            self.assertIs(is_place(curve, (q, w)), (q, w) in told, (p, q, w))

    def test_samples(self):
        for curve in all_curves():
            self.assertIs(is_place(curve, ()), True)
            for place in some_places(curve) + low_places(curve)[::7]:
                self.assertIs(is_place(curve, place), True, place)

    def test_powers_of_12_and_13(self):
        for curve in all_curves():
            for sort in (plain_place, wide_place):
                self.assertIs(is_place(curve, sort(curve, 12)), True)
                self.assertIs(is_place(curve, sort(curve, 13)), False)
            q, w = plain_place(curve, 12)
            self.assertIs(is_place(curve, (q, reckoning.less(curve.prime(), [], w))), True)
            for other in (None, [], reckoning.plus(curve.prime(), w, [1]), w[:-1] + [0], w + q):
                self.assertIs(is_place(curve, (q, other)), False)
            for other in ([], [1], w):
                self.assertIs(is_place(curve, (wide_place(curve, 12)[0], other)), False)

    def test_what_is_no_place(self):
        for curve in all_curves():
            for value in wrong_places(curve):
                self.assertIs(is_place(curve, value), False, value)

    def test_products_in_the_place_of_a_prime(self):
        for curve in all_curves():
            p, f = curve.prime(), curve.polynomial()
            (q, w), (other, v) = [place for place in low_places(curve, 2) if place[1]][:3:2]
            both = product(p, [q, other])
            # The rests by both are put together so that the square still differs from f by a multiple of both.
            turn = reckoning.rest_over(p, other, reckoning.rest(p, q, other))
            missing = reckoning.rest(p, reckoning.times(p, reckoning.less(p, v, w), turn), other)
            root = reckoning.plus(p, w, reckoning.times(p, q, missing))
            self.assertEqual(reckoning.rest(p, reckoning.less(p, f, reckoning.times(p, root, root)), both), [])
            self.assertIs(is_place(curve, (both, root)), False)
            self.assertIs(is_place(curve, (f, [])), is_one_prime(p, f))

    def test_the_curve_is_checked_first(self):
        good = {"curve": Curve(3, [0, 1]), "value": ([0, 1], [])}
        assert_each_refused(self, is_place, good, {"curve": (InvalidCurve, wrong_curves())})
        for curve in wrong_curves():
            for value in (None, True, ([0, 1], None), (), [], curve):
                assert_refused(self, InvalidCurve, curve, is_place, curve, value)

    def test_arguments_by_name(self):
        self.assertIs(is_place(value=([0, 1], []), curve=Curve(3, [0, 1])), True)

    def test_judged_values_stay(self):
        for curve in curves_over(5):
            for value in some_places(curve) + wrong_places(curve)[-20:]:
                kept = repr(value)
                is_place(curve, value)
                self.assertEqual(repr(value), kept)


class OnePlaceTest(unittest.TestCase):
    def test_degrees(self):
        for curve in all_curves():
            for place in some_places(curve) + low_places(curve)[::5]:
                self.assertEqual(place_degree(curve, place), reckoning.degree(place))
                self.assertIs(type(place_degree(curve, place)), int)
            self.assertEqual(place_degree(curve, ()), 1)
            self.assertEqual(place_degree(curve, wide_place(curve, 12)), 24)
            self.assertEqual(place_degree(curve, plain_place(curve, 12)), 12)
            for q, _ in branches(curve):
                self.assertEqual(place_degree(curve, (q, [])), len(q) - 1)

    def test_places_turned_about(self):
        for curve in all_curves():
            p = curve.prime()
            for place in some_places(curve) + low_places(curve)[::5]:
                told = place_turned(curve, place)
                self.assertIs(type(told), tuple)
                if place and place[1]:
                    self.assertEqual(told, (place[0], reckoning.less(p, [], place[1])))
                    self.assertNotEqual(told, place)
                else:
                    self.assertEqual(told, place)
                self.assertEqual(place_turned(curve, told), place)

    def test_arguments_by_name(self):
        curve = Curve(5, [1, 1, 0, 1])
        self.assertEqual(place_degree(place=([4, 1], None), curve=curve), 2)
        self.assertEqual(place_turned(place=([0, 1], [1]), curve=curve), ([0, 1], [4]))

    def test_wrong_arguments(self):
        for curve in [one for p in PRIMES for one in curves_over(p)[3::4]]:
            wrong = {"curve": (InvalidCurve, wrong_curves()), "place": (InvalidPlace, wrong_places(curve))}
            for call in (place_degree, place_turned):
                assert_each_refused(self, call, {"curve": curve, "place": ()}, wrong)

    def test_told_lists_belong_to_the_caller(self):
        for curve in all_curves():
            for place in some_places(curve):
                kept = repr(place)
                told = place_turned(curve, place)
                assert_no_list_twice(self, [place, told])
                place_degree(curve, place)
                for part in told:
                    if part is not None:
                        part.append(1)
                self.assertEqual(repr(place), kept)


class PlacesOverTest(unittest.TestCase):
    def test_all_primes_of_low_powers(self):
        for p, most in [(3, 5), (5, 3), (7, 2), (11, 2), (13, 2)]:
            for curve in curves_over(p):
                for power in range(1, most + 1):
                    for q in reckoning.kept_primes(p, power):
                        told = places_over(curve, q)
                        self.assertIs(type(told), list)
                        self.assertEqual(told, reckoning.places_by_trying(p, curve.polynomial(), q))

    def assert_places(self, curve, q):
        """What is told of a great power is judged by the words of the document."""
        p, f, told = curve.prime(), curve.polynomial(), places_over(curve, q)
        if reckoning.is_no_square(p, q, f):
            self.assertEqual(told, [(q, None)])
        elif not reckoning.rest(p, f, q):
            self.assertEqual(told, [(q, [])])
        else:
            (_, low), (_, high) = told
            self.assertTrue(low < high and len(low) < len(q))
            self.assertEqual(told, [(q, low), (q, reckoning.less(p, [], low))])
            self.assertEqual(reckoning.rest(p, reckoning.less(p, f, reckoning.times(p, low, low)), q), [])

    def test_great_powers(self):
        for curve in all_curves():
            for power in (4, 6, 7, 8, 11, 12):
                for q in first_primes(curve.prime(), power, 3):
                    self.assert_places(curve, q)
            for sort in (plain_place, wide_place):
                self.assertIn(sort(curve, 12), places_over(curve, sort(curve, 12)[0]))

    def test_branches(self):
        for curve in all_curves():
            for q, _ in branches(curve):
                self.assertEqual(places_over(curve, q), [(q, [])])

    def test_rests_that_are_numbers(self):
        # A number that is no square among the numbers has a root by prime polynomials of even powers alone.
        for p in PRIMES:
            squares = {number * number % p for number in range(1, p)}
            for power, high in [(1, 0), (2, 1), (3, 0), (4, 1), (6, 1)]:
                for q in first_primes(p, power, 2):
                    for number in range(1, p):
                        f = reckoning.plus(p, product(p, [q, [0] * high + [1]]), [number])
                        if len(f) % 2 or reckoning.common(p, f, reckoning.derived(p, f)) != [1]:
                            continue
                        told = places_over(Curve(p, f), q)
                        self.assertEqual(len(told), 1 if number not in squares and power % 2 else 2)
                        self.assert_places(Curve(p, f), q)

    def test_one_or_two(self):
        for curve in all_curves():
            for q in reckoning.kept_primes(curve.prime(), 1):
                plain = bool(places_over(curve, q)[0][1])
                self.assertEqual(len(places_over(curve, q)), 2 if plain else 1)

    def test_arguments_by_name(self):
        self.assertEqual(places_over(q=[4, 1], curve=Curve(5, [1, 1, 0, 1])), [([4, 1], None)])

    def test_wrong_arguments(self):
        for p in PRIMES:
            low, other = reckoning.kept_primes(p, 1)[:2]
            bad = wrong_polynomials(p) + [
                [], [1], [p - 1], [0, 2], product(p, [[2], first_primes(p, 2, 1)[0]]), product(p, [low, low]),
                product(p, [low, other]), product(p, first_primes(p, 2, 2)), product(p, first_primes(p, 6, 2)),
                first_primes(p, 13, 1)[0], first_primes(p, 14, 1)[0], [0] * 61 + [1], [low], (low, None), (low, [])]
            for curve in curves_over(p)[::5]:
                wrong = {"curve": (InvalidCurve, wrong_curves()), "q": (InvalidPolynomial, bad)}
                assert_each_refused(self, places_over, {"curve": curve, "q": [1, 1]}, wrong)

    def test_powers_of_12_and_13(self):
        for curve in all_curves():
            for q in first_primes(curve.prime(), 13, 2):
                assert_refused(self, InvalidPolynomial, q, places_over, curve, q)
            self.assertEqual(len(places_over(curve, wide_place(curve, 12)[0])), 1)
            self.assertEqual(len(places_over(curve, plain_place(curve, 12)[0])), 2)

    def test_told_lists_belong_to_the_caller(self):
        for curve in all_curves():
            for q in reckoning.kept_primes(curve.prime(), 1) + first_primes(curve.prime(), 12, 2):
                kept = list(q)
                told = places_over(curve, q)
                assert_no_list_twice(self, [told, q])
                first = repr(told)
                for place in told:
                    for part in place:
                        if part is not None:
                            part.append(1)
                told.append(())
                self.assertEqual(q, kept)
                self.assertEqual(repr(places_over(curve, q)), first)

    def test_changing_the_argument_afterwards(self):
        q = [1, 1]
        told = places_over(Curve(5, [1, 1, 0, 1]), q)
        q[0] = 3
        q.append(2)
        self.assertEqual(told, [([1, 1], [2]), ([1, 1], [3])])


class PlacesOfTest(unittest.TestCase):
    def test_all_places_by_trying(self):
        for curve in all_curves():
            for degree in degrees_let(curve.prime()):
                told = places_of(curve, degree)
                self.assertIs(type(told), list)
                self.assertEqual(told, reckoning.places_by_degree(curve.prime(), curve.polynomial(), degree))

    def test_order_and_degrees(self):
        for curve in all_curves():
            for degree in degrees_let(curve.prime()):
                told = places_of(curve, degree)
                keys = [(len(place[0]), place[0], place[1] or []) if place else (0,) for place in told]
                self.assertEqual(keys, sorted(keys))
                self.assertIs(() in told, degree == 1)
                for place in told:
                    self.assertEqual(place_degree(curve, place), degree)
                    self.assertIs(is_place(curve, place), True)

    def points(self, p, f, power):
        """How many points there are over a field with p ** power numbers, the far one among them."""
        q = reckoning.kept_primes(p, power)[0]
        roots, many = reckoning.kept_roots(p, tuple(q)), 1
        for one in reckoning.all_values(p, (q, [])):
            value = []
            for number in reversed(f):
                value = reckoning.rest(p, reckoning.plus(p, reckoning.times(p, value, one), [number][:number]), q)
            many += len(roots.get(tuple(value), []))
        return many

    def test_points_over_greater_fields(self):
        for curve in all_curves():
            p = curve.prime()
            for power in degrees_let(p):
                told = sum(degree * len(places_of(curve, degree))
                           for degree in range(1, power + 1) if power % degree == 0)
                self.assertEqual(told, self.points(p, curve.polynomial(), power))

    def test_degrees_that_are_refused(self):
        for curve in all_curves():
            assert_refused(self, InvalidNumber, 4, places_of, curve, 4)
            assert_refused(self, InvalidNumber, 0, places_of, curve, 0)
            if curve.prime() > 7:
                assert_refused(self, InvalidNumber, 3, places_of, curve, 3)

    def test_arguments_by_name(self):
        told = places_of(degree=1, curve=Curve(3, [0, 2, 0, 1]))
        self.assertEqual(told, [(), ([0, 1], []), ([1, 1], []), ([2, 1], [])])

    def test_wrong_arguments(self):
        degrees = [one for one in never_whole() if one != 3] + [0, -1, -3, 4, 5, 12, 10 ** 29, -10 ** 29]
        for p in PRIMES:
            for curve in curves_over(p)[::3]:
                wrong = {"curve": (InvalidCurve, wrong_curves()),
                         "degree": (InvalidNumber, degrees + ([3] if p > 7 else []))}
                assert_each_refused(self, places_of, {"curve": curve, "degree": 1}, wrong)

    def test_told_lists_belong_to_the_caller(self):
        for curve in all_curves():
            for degree in degrees_let(curve.prime()):
                told = places_of(curve, degree)
                assert_no_list_twice(self, told)
                kept = repr(told)
                for place in told:
                    for part in place:
                        if part is not None:
                            part.append(1)
                told.append(())
                self.assertEqual(repr(places_of(curve, degree)), kept)


if __name__ == "__main__":
    unittest.main()
