"""Promises [30] and [31]: residues, and differentials with told ones. With [2]."""

import unittest

from curveheads.curves import Curve
from curveheads.differentials import without_poles
from curveheads.errors import InvalidCurve, InvalidFunction, InvalidList, InvalidPlace
from curveheads.functions import Function, product_of, quotient_of, slope, sum_of
from curveheads.residues import has_residues, residue, residues, with_residues
from tests import reckoning
from tests.bundle_samples import in_order, place_key, places_to_take, plain_and_turned
from tests.head_samples import (
    by_degree, orders_at, places_in_turn, residue_of, sign_taken, summing_to, with_degrees, wrong_told)
from tests.place_samples import branches, low_places, plain_place, some_places, wide_place, wrong_places
from tests.samples import (
    PRIMES, all_curves, assert_each_refused, assert_no_list_twice, assert_refused, curves_over, lists_within,
    mixed_functions, plain_functions, tops, wrong_curves)
from tests.space_samples import functions_of_other_curves, is_above_by_orders, low_functions


def with_poles(curve, place, seed, times):
    """Functions with as many q of a place below them."""
    p, q = curve.prime(), place[0] if place else [0, 1]
    below = reckoning.taken(p, q, times)
    for one in mixed_functions(curve, seed, 2, 3):
        yield Function(curve, one.top(), one.side(), reckoning.times(p, one.bottom(), below))


def places_below(curve, z):
    """The far place, and all places over the low prime polynomials that divide the bottom of a function."""
    p, f = curve.prime(), curve.polynomial()
    primes = [q for power in (1, 2, 3) for q in reckoning.kept_primes(p, power)
              if not reckoning.rest(p, z.bottom(), q)]
    return [(), *[place for q in primes for place in reckoning.places_by_trying(p, f, q)]]


class ResidueTest(unittest.TestCase):
    def test_places_of_all_sorts(self):
        for at, curve in enumerate(all_curves()):
            for by, place in enumerate(some_places(curve)[:-2]):
                if reckoning.degree(place) > 4:
                    continue
                for z in with_poles(curve, place, at + by, 1 + (at + by) % 3):
                    told = residue(curve, z, place)
                    self.assertIs(type(told), int)
                    self.assertEqual(told, residue_of(curve, z, place))

    def test_multiple_poles(self):
        many = 0
        for at, curve in enumerate(all_curves()):
            told = places_to_take(curve)[at % 3::3]
            for place in [place for place in told if reckoning.degree(place) < 3]:
                for z in with_poles(curve, place, at, 6):
                    found = residue(curve, z, place)
                    self.assertEqual(found, residue_of(curve, z, place))
                    many += found != 0
        self.assertGreater(many, 60)

    def test_places_with_no_pole(self):
        for curve in all_curves():
            for place in some_places(curve):
                z = sign_taken(curve, place, 4 if place == () else 0)
                self.assertEqual(residue(curve, z, place), 0)
                self.assertEqual(residue(curve, Function(curve, [], [], [1]), place), 0)
            for z in without_poles(curve):
                self.assertEqual(residues(curve, z), [])

    def test_poles_at_the_turned_place_alone(self):
        # The bottom has a q here, but the function has a zero at the place turned about that undoes it.
        for curve in all_curves():
            p, f = curve.prime(), curve.polynomial()
            for times in (1, 3):
                (q, w), other = plain_and_turned(curve)
                root = reckoning.lifted(p, f, (q, w), times)
                z = Function(curve, reckoning.less(p, [], root), [1], reckoning.taken(p, q, times))
                self.assertGreaterEqual(orders_at(curve, (q, w), z), 0)
                self.assertEqual(residue(curve, z, (q, w)), 0)
                self.assertEqual(residue(curve, z, other), residue_of(curve, z, other))

    def test_quotients_by_polynomials(self):
        for curve in all_curves():
            p, f = curve.prime(), curve.polynomial()
            for q in [q for power in (1, 2, 3) for q in reckoning.kept_primes(p, power)[:2]]:
                z = Function(curve, reckoning.derived(p, q), [], q)
                for place in reckoning.places_by_trying(p, f, q):
                    wanted = reckoning.degree(place) * (2 if place[1] == [] else 1)
                    self.assertEqual(residue(curve, z, place), wanted % p)
                self.assertEqual(residue(curve, z, ()), -2 * (len(q) - 1) % p)

    def test_at_branches_what_is_with_y_does_not_count(self):
        for curve in all_curves():
            for place in branches(curve)[:2]:
                q = place[0]
                for side in ([1], [0, 1], [1, 1]):
                    z = Function(curve, [], side, reckoning.times(curve.prime(), q, q))
                    self.assertEqual(residue(curve, z, place), 0)

    def test_places_of_the_power_12(self):
        # At a simple pole the residue is the sum of the powers of the value of the function times q over its slope.
        for curve in [one for p in PRIMES for one in curves_over(p)[1::4]]:
            p, f = curve.prime(), curve.polynomial()
            for place in (plain_place(curve, 12), wide_place(curve, 12)):
                q = place[0]
                for one in mixed_functions(curve, 1, 2, 3):
                    z = Function(curve, one.top(), one.side(), reckoning.times(p, q, one.bottom()))
                    bent = reckoning.times(p, reckoning.derived(p, q), one.bottom())
                    value = reckoning.value_of(p, f, (one.top(), one.side(), bent), place)
                    total = reckoning.nought_at(place)
                    for part in reckoning.conjugates(p, f, place, value):
                        total = reckoning.sum_there(p, place, total, part)
                    self.assertEqual(residue(curve, z, place), sum(total[0] if place[1] is None else total))


class ResiduesTest(unittest.TestCase):
    def samples(self, curve, seed):
        p = curve.prime()
        found = plain_functions(curve) + low_functions(curve, seed, 4)
        below = reckoning.times(p, reckoning.taken(p, plain_and_turned(curve)[0][0], 2), branches(curve)[0][0])
        return found + [Function(curve, one.top(), one.side(), reckoning.times(p, below, one.bottom()))
                        for one in mixed_functions(curve, seed, 2, 2)]

    def test_all_residues(self):
        many = 0
        for at, curve in enumerate(all_curves()):
            for z in self.samples(curve, at):
                told = residues(curve, z)
                self.assertIs(type(told), list)
                self.assertTrue(all(0 < number < curve.prime() for _, number in told))
                self.assertEqual(sum(number for _, number in told) % curve.prime(), 0)
                self.assertEqual(told, sorted(told, key=lambda row: place_key(row[0])))
                numbers = {repr(place): number for place, number in told}
                self.assertEqual(len(numbers), len(told))
                for place in places_below(curve, z):
                    if reckoning.degree(place) < 4:
                        self.assertEqual(numbers.get(repr(place), 0), residue_of(curve, z, place))
                    self.assertEqual(numbers.pop(repr(place), 0), residue(curve, z, place))
                many += len(told)
                self.assertTrue(all(len(place[0]) > 4 for place, _ in told if repr(place) in numbers))
        self.assertGreater(many, 500)

    def test_slopes_have_none(self):
        for at, curve in enumerate(all_curves()):
            for one in plain_functions(curve) + low_functions(curve, at, 4):
                self.assertEqual(residues(curve, slope(one)), [])

    def test_slopes_divided_by_their_functions(self):
        many = 0
        for at, curve in enumerate(all_curves()):
            p = curve.prime()
            for one in low_functions(curve, at, 5):
                z = quotient_of(slope(one), one)
                numbers = {repr(place): number for place, number in residues(curve, z)}
                for place in places_below(curve, z) + by_degree(curve)[:3] + branches(curve):
                    wanted = orders_at(curve, place, one) * reckoning.degree(place) % p
                    self.assertEqual(numbers.get(repr(place), 0), wanted)
                    many += wanted != 0
        self.assertGreater(many, 300)

    def test_sums(self):
        for curve in all_curves()[::2]:
            one, other = self.samples(curve, 1)[-2:]
            for place in places_below(curve, one)[:4]:
                total = residue(curve, one, place) + residue(curve, other, place)
                self.assertEqual(residue(curve, sum_of(one, other), place), total % curve.prime())


class ToldResiduesTest(unittest.TestCase):
    def assert_has(self, curve, z, told):
        self.assertTrue(is_above_by_orders(curve, z, in_order([(place, -1) for place, _ in told])))
        for place, number in told:
            if reckoning.degree(place) < 4:
                self.assertEqual(residue_of(curve, z, place), number)
            self.assertEqual(residue(curve, z, place), number)
        self.assertIs(has_residues(curve, z, told), True)

    def test_numbers_that_sum_to_0(self):
        for at, curve in enumerate(all_curves()):
            for many in (0, 1, 2, 3, 4, 6):
                places = places_in_turn(curve, at + many, many)
                if sum(reckoning.degree(place) for place in places) > 40:
                    continue
                told = summing_to(curve, places, 0, at + many)
                z = with_residues(curve, told)
                self.assert_has(curve, z, told)
                self.assertEqual(residues(curve, z), in_order(told))

    def test_numbers_that_do_not(self):
        for at, curve in enumerate(all_curves()):
            for many in (1, 2, 3, 5):
                places = places_in_turn(curve, at + many, many)
                for wanted in {1, 2, curve.prime() - 1}:
                    if sum(reckoning.degree(place) for place in places) < 41:
                        self.assertIsNone(with_residues(curve, summing_to(curve, places, wanted, at + many)))

    def test_whatever_the_order(self):
        for at, curve in enumerate(all_curves()[::2]):
            places = places_in_turn(curve, at, 4)
            told = summing_to(curve, places, 0, at)
            for turned in (told[::-1], told[2:] + told[:2], told[1:] + told[:1]):
                self.assert_has(curve, with_residues(curve, told), turned)
                self.assert_has(curve, with_residues(curve, turned), told)

    def test_twelve_places(self):
        for at, curve in enumerate(all_curves()):
            places = by_degree(curve)[:12]
            if sum(reckoning.degree(place) for place in places) < 41:
                told = summing_to(curve, places, 0, at)
                self.assert_has(curve, with_residues(curve, told), told)
                told = summing_to(curve, places, 1, at)
                self.assertIsNone(with_residues(curve, told))
                self.assertIs(has_residues(curve, Function(curve, [], [], [1]), told), False)

    def test_thirteen_places(self):
        found = 0
        for curve in all_curves():
            places = by_degree(curve)[:13]
            told = [(place, 0) for place in places]
            found += sum(reckoning.degree(place) for place in places) < 41
            assert_refused(self, InvalidList, told, with_residues, curve, told)
            assert_refused(self, InvalidList, told, has_residues, curve, Function(curve, [], [], [1]), told)
        self.assertGreater(found, 20)

    def test_degrees_that_sum_to_40_and_to_41(self):
        found = [0, 0]
        for at, curve in enumerate(all_curves()):
            for many in (4, 12):
                for wanted in (40, 41):
                    places = with_degrees(curve, many, wanted)
                    if many == 4:
                        high = [plain_place(curve, 12), wide_place(curve, 12)]
                        low = [place for place in by_degree(curve) if reckoning.degree(place) == wanted - 37]
                        places = high + low[:1] + [()] if low else None
                    if places is None:
                        continue
                    self.assertEqual(sum(reckoning.degree(place) for place in places), wanted)
                    told = summing_to(curve, places, 0, at)
                    if wanted == 40:
                        self.assert_has(curve, with_residues(curve, told), told)
                    else:
                        assert_refused(self, InvalidList, told, with_residues, curve, told)
                        assert_refused(self, InvalidList, told, has_residues, curve, Function(
                            curve, [1], [], [1]), told)
                    found[wanted - 40] += 1
        self.assertGreater(min(found), 30)

    def test_no_places(self):
        for curve in all_curves():
            nought = Function(curve, [], [], [1])
            self.assertTrue(is_above_by_orders(curve, with_residues(curve, []), []))
            for z in [nought, *without_poles(curve)]:
                self.assertIs(has_residues(curve, z, []), True)
            for z in (Function(curve, [1], [], [1]), Function(curve, [], [1], [1])):
                self.assertIs(has_residues(curve, z, []), False)

    def test_told_noughts(self):
        for curve in all_curves()[::2]:
            nought, places = Function(curve, [], [], [1]), places_to_take(curve)[:3]
            told = [(place, 0) for place in places]
            self.assert_has(curve, with_residues(curve, told), told)
            self.assertIs(has_residues(curve, nought, told), True)
            self.assertIs(has_residues(curve, nought, told[:1] + [(places[1], 1)]), False)

    def test_what_differs_by_a_little(self):
        for at, curve in enumerate(all_curves()):
            p = curve.prime()
            places = places_in_turn(curve, at, 3)
            told = summing_to(curve, places, 0, at)
            z = with_residues(curve, told)
            place, number = told[0]
            self.assertIs(has_residues(curve, z, [(place, (number + 1) % p), *told[1:]]), False)
            more = [one for one in by_degree(curve) if one not in places][0]
            self.assertIs(has_residues(curve, z, told + [(more, 0)]), True)
            self.assertIs(has_residues(curve, z, told + [(more, 1)]), False)
            for other in without_poles(curve):
                self.assertIs(has_residues(curve, sum_of(z, other), told), True)
            # Slopes have no residues, but here a double pole.
            deep = slope(sign_taken(curve, places[1], -1))
            self.assertEqual(residues(curve, deep), [])
            self.assertIs(has_residues(curve, sum_of(z, deep), told), False)
            self.assertIs(has_residues(curve, deep, [(places[1], 0)]), False)
            for row in told:
                if row[1]:
                    self.assertIs(has_residues(curve, z, [one for one in told if one is not row]), False)

    def test_quotients_by_polynomials(self):
        for curve in all_curves():
            p, f = curve.prime(), curve.polynomial()
            for q in reckoning.kept_primes(p, 1)[:2] + reckoning.kept_primes(p, 2)[:2]:
                z = Function(curve, reckoning.derived(p, q), [], q)
                places = reckoning.places_by_trying(p, f, q)
                told = [(place, reckoning.degree(place) * (2 if place[1] == [] else 1) % p) for place in places]
                told.append(((), -2 * (len(q) - 1) % p))
                self.assert_has(curve, z, told)
                self.assertIs(has_residues(curve, z, told[:-1]), False)
                self.assertIs(has_residues(curve, product_of(z, z), told), False)


class ArgumentsTest(unittest.TestCase):
    def test_arguments_by_name(self):
        five, one = Curve(5, [1, 1, 0, 1]), ([0, 1], [1])
        z = Function(five, [], [1], [0, 1, 1, 0, 1])
        self.assertEqual(residue(place=one, z=z, curve=five), 1)
        self.assertEqual(residues(z=z, curve=five), [(one, 1), (([0, 1], [4]), 4)])
        told = [(one, 1), (([0, 1], [4]), 4)]
        self.assertIs(has_residues(told=told, z=z, curve=five), True)
        self.assertIs(has_residues(five, with_residues(told=told, curve=five), told), True)

    def test_wrong_arguments(self):
        for curve in [one for p in PRIMES for one in curves_over(p)[p % 8::8]]:
            curves, functions = (InvalidCurve, wrong_curves()), functions_of_other_curves(curve)
            lists = (InvalidList, wrong_told(curve))
            wrong = {"curve": curves, "z": (InvalidFunction, functions)}
            for z in plain_functions(curve)[:2]:
                good = {"curve": curve, "z": z}
                assert_each_refused(self, residue, {**good, "place": ()}, {
                    **wrong, "place": (InvalidPlace, wrong_places(curve)[::2])})
                assert_each_refused(self, residues, good, wrong)
                assert_each_refused(self, has_residues, {**good, "told": [((), 0)]}, {**wrong, "told": lists})
            assert_each_refused(self, with_residues, {"curve": curve, "told": []}, {"curve": curves, "told": lists})

    def test_lists_that_are_told_residues(self):
        # What is refused in a bundle may be told here: places in whatever order, and the number 0.
        for curve in all_curves()[::3]:
            one, other = plain_and_turned(curve)
            for told in ([(other, 1), (one, curve.prime() - 1)], [(one, 0), ((), 0)], [((), 0)]):
                self.assertIs(has_residues(curve, with_residues(curve, told), told), True)

    def test_arguments_stay_and_told_lists_belong_to_the_caller(self):
        for at, curve in enumerate(all_curves()[::3]):
            told = summing_to(curve, places_in_turn(curve, at, 3), 0, at)
            kept = repr(told)
            z = with_residues(curve, told)
            self.assertIs(has_residues(curve, z, told), True)
            found = residues(curve, z)
            first = repr(found)
            assert_no_list_twice(self, [told, found])
            for part in lists_within(found):
                part.append(1)
            self.assertEqual(repr(residues(curve, z)), first)
            self.assertEqual(repr(told), kept)
            polynomials = repr(tops(z))
            for part in lists_within(told):
                part.append(1)
            self.assertEqual(repr(tops(z)), polynomials)

    def test_a_changed_list_is_read_anew(self):
        for curve in all_curves()[::4]:
            p, one = curve.prime(), low_places(curve)[0]
            told = [((), 1), (one, p - 1)]
            z = with_residues(curve, told)
            told[1] = (one, 1)
            self.assertIsNone(with_residues(curve, told))
            self.assertIs(has_residues(curve, z, told), False)
            told[1] = (one, p - 1)
            self.assertIs(has_residues(curve, z, told), True)
            told.clear()
            self.assertIs(has_residues(curve, z, told), False)


if __name__ == "__main__":
    unittest.main()
