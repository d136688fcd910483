"""Promises [32] to [35]: functions that fit heads, and what bars them. With [2]."""

import itertools
import unittest

from curveheads.curves import Curve
from curveheads.differentials import differentials_above
from curveheads.errors import InvalidBundle, InvalidCurve, InvalidFunction, InvalidHeads, InvalidList, InvalidPlace
from curveheads.functions import Function, product_of, sum_of
from curveheads.heads import bar_numbers, fits, fitting, heads_with, how_many_fit, is_bar, least_far
from curveheads.spaces import space_basis, space_size
from tests import reckoning
from tests.bundle_samples import in_order, places_to_take, plain_and_turned, wrong_bundles
from tests.head_samples import (
    bars_by_residues, by_degree, fits_by_orders, heads_at, lets_there, orders_at, places_in_turn, residues_of_heads,
    sign_taken, wrong_heads)
from tests.place_samples import branches, low_places, wrong_places
from tests.samples import (
    PRIMES, Stream, all_curves, assert_each_refused, assert_no_list_twice, assert_refused, curves_over, lists_within,
    mixed_functions, plain_functions, tops, trimmed, wrong_curves)
from tests.space_samples import functions_of_other_curves, with_degree
from tests.test_spaces import wrong_number_lists


def samples(curve, seed, many=3):
    """Bundles and heads: the bundles have numbers above and below 0 at some places of the heads, and elsewhere."""
    stream = Stream(seed)
    for at in range(many):
        places = [place for place in places_in_turn(curve, seed + at, 5) if reckoning.degree(place) < 4]
        heads = heads_at(curve, places[:(at + 1) % 4], seed + at)
        taken = [place for place in places if stream.below(2)]
        bundle = in_order([(place, stream.below(5) - 2) for place in taken])
        yield with_degree(bundle, stream.below(6) - 3) if stream.below(3) else bundle, heads


class FitsTest(unittest.TestCase):
    def test_functions_by_their_orders(self):
        many = [0, 0]
        for at, curve in enumerate(all_curves()):
            for bundle, heads in samples(curve, at, 4):
                word, found = fitting(curve, bundle, heads)
                tried = [head for _, head in heads[:2]] + plain_functions(curve)[at % 4::4] + [found]
                if word == "fits":
                    tried += [sum_of(found, one) for one in space_basis(curve, bundle)[-1:]]
                    tried += [sum_of(found, sign_taken(curve, place, -3)) for place, _ in heads[:1]]
                for one in tried:
                    told = fits(curve, bundle, heads, one)
                    self.assertIs(told, fits_by_orders(curve, bundle, heads, one))
                    many[told] += 1
        self.assertGreater(min(many), 150)

    def test_without_heads(self):
        for at, curve in enumerate(all_curves()[::2]):
            for bundle, _ in samples(curve, at):
                for one in plain_functions(curve) + space_basis(curve, bundle)[:2]:
                    self.assertIs(fits(curve, bundle, [], one), fits_by_orders(curve, bundle, [], one))
                self.assertIs(fits(curve, bundle, [], Function(curve, [], [], [1])), True)
                self.assertEqual(fitting(curve, bundle, [])[0], "fits")
                self.assertEqual(bar_numbers(curve, bundle, []), [0] * len(differentials_above(curve, bundle)))
                self.assertIsNone(least_far(curve, bundle, []))
                for one in differentials_above(curve, bundle)[:2]:
                    self.assertIs(is_bar(curve, bundle, [], one), False)

    def test_the_bundle_does_not_count_elsewhere_at_places_of_heads(self):
        # At the place of a head just the difference is judged, however great a pole both have there.
        for curve in all_curves():
            for place in by_degree(curve)[:4] + branches(curve)[:1]:
                one = sign_taken(curve, place, -3)
                poles = sorted([(other, -min(0, orders_at(curve, other, one))) for other in by_degree(curve)
                                if other != place], key=lambda row: repr(row[0]))
                bundle = in_order(poles)
                if not fits_by_orders(curve, bundle, [(place, one)], one):
                    continue
                self.assertIs(fits(curve, bundle, [(place, one)], one), True)
                self.assertIs(fits(curve, bundle, [], one), False)
                self.assertIs(fits(curve, bundle, [(place, Function(curve, [], [], [1]))], one), False)

    def test_differences_by_their_orders(self):
        for curve in all_curves():
            for place in by_degree(curve)[:3] + branches(curve)[:1]:
                one = Function(curve, [1], [1], [1])
                for number in (-4, -1, 1, 3):
                    for order in (-number - 1, -number, -number + 1):
                        head = sum_of(one, sign_taken(curve, place, order))
                        bundle = in_order([(place, number), *[((), 40)] * (place != ())])
                        told = fits(curve, bundle, [(place, head)], one)
                        self.assertIs(told, fits_by_orders(curve, bundle, [(place, head)], one))
                        if place != ():
                            self.assertIs(told, order >= -number)


class BarsTest(unittest.TestCase):
    def test_bars_by_residues(self):
        many = [0, 0]
        for at, curve in enumerate(all_curves()):
            for bundle, heads in samples(curve, at, 4):
                tried = differentials_above(curve, bundle)[:2] + mixed_functions(curve, at, 1, 2)
                tried += [fitting(curve, bundle, heads)[1]] + plain_functions(curve)[at % 4::4]
                tried += [product_of(one, Function(curve, [0, 1], [], [1])) for one in tried[:1]]
                for one in tried:
                    told = is_bar(curve, bundle, heads, one)
                    self.assertIs(told, bars_by_residues(curve, bundle, heads, one))
                    many[told] += 1
        self.assertGreater(min(many), 80)

    def test_0_is_no_bar(self):
        for at, curve in enumerate(all_curves()[::2]):
            for bundle, heads in samples(curve, at):
                self.assertIs(is_bar(curve, bundle, heads, Function(curve, [], [], [1])), False)

    def test_what_is_not_above_the_bundle_is_no_bar(self):
        for curve in all_curves():
            place = by_degree(curve)[1]
            one = Function(curve, [], [1], reckoning.times(curve.prime(), curve.polynomial(), place[0]))
            heads = [(place, Function(curve, [0, 1], [1], [1]))]
            if residues_of_heads(curve, heads, one):
                self.assertIs(is_bar(curve, [], heads, one), False)
                bundle = in_order([((), -40), (place, -2), (reckoning.places_by_trying(
                    curve.prime(), curve.polynomial(), place[0])[-1], -2)][:3 if place[1] else 2])
                self.assertIs(is_bar(curve, bundle, heads, one), True)


class FittingTest(unittest.TestCase):
    def test_a_function_or_a_bar(self):
        words = {"fits": 0, "barred": 0}
        for at, curve in enumerate(all_curves()):
            for bundle, heads in samples(curve, 50 + at, 6):
                told = fitting(curve, bundle, heads)
                self.assertIs(type(told), tuple)
                word, one = told
                words[word] += 1
                self.assertIs(type(one), Function)
                self.assertEqual(one.curve(), curve)
                numbers = bar_numbers(curve, bundle, heads)
                if word == "fits":
                    self.assertTrue(fits_by_orders(curve, bundle, heads, one))
                    self.assertIs(fits(curve, bundle, heads, one), True)
                    wanted = curve.prime() ** space_size(curve, bundle)
                    self.assertEqual(numbers, [0] * len(numbers))
                else:
                    self.assertTrue(bars_by_residues(curve, bundle, heads, one))
                    self.assertIs(is_bar(curve, bundle, heads, one), True)
                    wanted = 0
                    self.assertTrue(any(numbers))
                self.assertEqual(how_many_fit(curve, bundle, heads), wanted)
        self.assertGreater(min(words.values()), 60)

    def test_never_both(self):
        for at, curve in enumerate(curves_over(3)):
            for bundle, heads in samples(curve, 70 + at, 6):
                able = differentials_above(curve, bundle)
                if len(able) > 4:
                    continue
                barred = fitting(curve, bundle, heads)[0] == "barred"
                found = 0
                for numbers in itertools.product(range(3), repeat=len(able)):
                    one = Function(curve, [], [], [1])
                    for number, part in zip(numbers, able):
                        one = sum_of(one, product_of(Function(curve, trimmed([number]), [], [1]), part))
                    found += is_bar(curve, bundle, heads, one)
                # Those that do not bar are the sums whose numbers, times the bar numbers, sum to 0.
                self.assertEqual(found, 2 * 3 ** (len(able) - 1) if barred else 0)

    def test_all_functions_that_fit(self):
        # All functions with a told bottom and tops of low powers are tried.
        for curve in curves_over(3)[1:6]:
            f, m = curve.polynomial(), len(curve.polynomial()) - 1
            (q, w), other = plain_and_turned(curve)
            y_there = Function(curve, [], [1], q)
            for bundle, heads in [([((), 2)], [((q, w), y_there)]), ([((), m)], [((q, w), y_there)]),
                                  ([((), m), (other, 1)], [((q, w), y_there)]),
                                  ([((), m)], [((q, w), y_there), (other, y_there)]),
                                  ([((), 2), ((q, w), -1)], [((q, w), Function(curve, [1], [1], [1]))])]:
                self.assert_so_many_fit(curve, bundle, heads, q, bundle[0][1] + 2 * len(q) - 2, len(f) - 1)

    def assert_so_many_fit(self, curve, bundle, heads, q, far, m):
        sizes = far // 2 + 1, max(0, (far - m) // 2 + 1)
        found = 0
        for numbers in itertools.product(range(3), repeat=sum(sizes)):
            one = Function(curve, trimmed(numbers[:sizes[0]]), trimmed(numbers[sizes[0]:]), q)
            found += fits_by_orders(curve, bundle, heads, one)
        self.assertEqual(how_many_fit(curve, bundle, heads), found)

    def test_what_fits_differs_by_what_the_bundle_lets(self):
        for at, curve in enumerate(all_curves()):
            for bundle, heads in samples(curve, 90 + at, 3):
                word, one = fitting(curve, bundle, heads)
                if word == "fits":
                    for other in space_basis(curve, bundle)[::3]:
                        self.assertIs(fits(curve, bundle, heads, sum_of(one, other)), True)
                    more = sum_of(one, sign_taken(curve, by_degree(curve)[1], -5))
                    self.assertIs(fits(curve, bundle, heads, more), False)

    def test_heads_that_are_let_everywhere(self):
        for curve in all_curves():
            p, f = curve.prime(), curve.polynomial()
            bundle = [((), len(f) + 1)]
            heads = [(place, one) for place in places_to_take(curve)[1:4] for one in [Function(curve, [1], [1], [1])]]
            heads = sorted(heads, key=lambda row: (len(row[0][0]), row[0][0], row[0][1] or []))
            self.assertEqual(fitting(curve, bundle, heads)[0], "fits")
            self.assertIsNone(least_far(curve, bundle, heads))
            self.assertEqual(how_many_fit(curve, bundle, heads), p ** space_size(curve, bundle))

    def test_genus_0(self):
        # There is a differential above a bundle only if its degree is below -1.
        for curve in [one for p in PRIMES for one in curves_over(p)[:2]]:
            for bundle, heads in samples(curve, 5, 6):
                degree = sum(number * reckoning.degree(place) for place, number in bundle)
                self.assertEqual(len(bar_numbers(curve, bundle, heads)), max(0, -1 - degree))
                if degree >= -1:
                    self.assertEqual(fitting(curve, bundle, heads)[0], "fits")


class BarNumbersTest(unittest.TestCase):
    def test_sums_of_residues(self):
        many = 0
        for at, curve in enumerate(all_curves()):
            for bundle, heads in samples(curve, 20 + at, 3):
                told = bar_numbers(curve, bundle, heads)
                self.assertIs(type(told), list)
                able = differentials_above(curve, bundle)
                self.assertEqual(len(told), len(able))
                for number, one in list(zip(told, able))[:5]:
                    self.assertIs(type(number), int)
                    self.assertEqual(number, residues_of_heads(curve, heads, one))
                    many += number != 0
        self.assertGreater(many, 60)

    def test_places_of_the_degree_3(self):
        for at, curve in enumerate(all_curves()):
            places = [place for place in low_places(curve) if reckoning.degree(place) == 3][:1]
            heads = heads_at(curve, places, at)
            bundle = [((), -2)]
            for number, one in zip(bar_numbers(curve, bundle, heads), differentials_above(curve, bundle)):
                self.assertEqual(number, residues_of_heads(curve, heads, one))


class HeadsWithTest(unittest.TestCase):
    def test_told_numbers(self):
        for at, curve in enumerate(all_curves()):
            p, stream = curve.prime(), Stream(at)
            places = [()] + [place for place in places_to_take(curve) if 0 < reckoning.degree(place) < 4]
            for by, (bundle, _) in enumerate(samples(curve, 30 + at, 4)):
                place = places[by % 2 * (1 + stream.below(len(places) - 1))]
                size = len(differentials_above(curve, bundle))
                numbers = [stream.below(p) for _ in range(size)]
                told = heads_with(curve, bundle, place, numbers)
                self.assertIs(type(told), list)
                self.assertEqual(len(told), 1)
                self.assertEqual(told[0][0], place)
                self.assertEqual(bar_numbers(curve, bundle, told), numbers)
                for number, one in list(zip(numbers, differentials_above(curve, bundle)))[:2]:
                    self.assertEqual(residues_of_heads(curve, told, one), number)
                self.assertEqual(fitting(curve, bundle, told)[0], "barred" if any(numbers) else "fits")

    def test_no_differentials_and_noughts(self):
        for curve in all_curves():
            for place in by_degree(curve)[:3]:
                told = heads_with(curve, [((), 2 * curve.genus() + 1)], place, [])
                self.assertEqual([row[0] for row in told], [place])
                noughts = [0] * len(differentials_above(curve, [((), -2)]))
                self.assertEqual(bar_numbers(curve, [((), -2)], heads_with(
                    curve, [((), -2)], place, noughts)), noughts)

    def test_wrong_lists_of_numbers(self):
        for curve in all_curves()[::3]:
            for bundle in ([], [((), -3)], [((), 20)]):
                size = len(differentials_above(curve, bundle))
                for value in wrong_number_lists(curve.prime(), size):
                    assert_refused(self, InvalidList, value, heads_with, curve, bundle, (), value)


class LeastFarTest(unittest.TestCase):
    def test_the_least_number(self):
        many = 0
        for at, curve in enumerate(all_curves()):
            for bundle, heads in samples(curve, 40 + at, 5):
                heads = [head for head in heads if head[0] != ()]
                told = least_far(curve, bundle, heads)
                if all(lets_there(curve, bundle, place, one) for place, one in heads):
                    self.assertIsNone(told)
                    continue
                many += 1
                self.assertIs(type(told), tuple)
                number, one, bar = told
                near = [row for row in bundle if row[0] != ()]
                enough, less = in_order([((), number), *near]), in_order([((), number - 1), *near])
                self.assertTrue(fits_by_orders(curve, enough, heads, one))
                self.assertTrue(bars_by_residues(curve, less, heads, bar))
                self.assertEqual(fitting(curve, enough, heads)[0], "fits")
                self.assertEqual(fitting(curve, less, heads)[0], "barred")
                for other in (near, in_order([((), 9), *near]), in_order([((), -9), *near])):
                    self.assertEqual(least_far(curve, other, heads)[0], number)
        self.assertGreater(many, 80)

    def test_heads_that_are_let(self):
        for curve in all_curves():
            nought = Function(curve, [], [], [1])
            for place in places_to_take(curve)[1:]:
                self.assertIsNone(least_far(curve, [], [(place, nought)]))
                self.assertIsNone(least_far(curve, [((), -7), (place, -2)], [(place, nought)]))
                self.assertIsNone(least_far(curve, [((), -5)], [(place, sign_taken(curve, place, 0))]))
                self.assertIsNone(least_far(curve, [(place, -1)], [(place, sign_taken(curve, place, 1))]))
                self.assertIsNotNone(least_far(curve, [(place, -2)], [(place, sign_taken(curve, place, 1))]))

    def test_a_simple_pole(self):
        # The function 1 / (x - c), or one with y, fits best: it has a zero at the far place, or a pole there.
        for curve in all_curves():
            for place in by_degree(curve)[1:3]:
                number, one, bar = least_far(curve, [], [(place, sign_taken(curve, place, -1))])
                self.assertTrue(fits_by_orders(curve, [((), number)] * bool(number), [(
                    place, sign_taken(curve, place, -1))], one))
                self.assertEqual(number, -orders_at(curve, (), one))
                self.assertLess(number, 2 * curve.genus())
                self.assertIs(is_bar(curve, [((), number - 1)] * (number != 1), [(
                    place, sign_taken(curve, place, -1))], bar), True)

    def test_heads_at_the_far_place(self):
        for curve in all_curves()[::2]:
            x = Function(curve, [0, 1], [], [1])
            for heads in ([((), x)], [((), Function(curve, [], [], [1]))], [((), x), (by_degree(curve)[1], x)]):
                assert_refused(self, InvalidHeads, heads, least_far, curve, [], heads)
                fitting(curve, [], heads)


class ArgumentsTest(unittest.TestCase):
    def test_arguments_by_name(self):
        five, one = Curve(5, [1, 1, 0, 1]), ([0, 1], [1])
        over_x, over_y = Function(five, [1], [], [0, 1]), Function(five, [], [1], [1, 1, 0, 1])
        heads = [(one, over_x)]
        self.assertIs(fits(function=over_x, heads=heads, bundle=[], curve=five), False)
        self.assertIs(is_bar(function=over_y, heads=heads, bundle=[], curve=five), True)
        self.assertEqual(fitting(heads=heads, bundle=[], curve=five)[0], "barred")
        self.assertEqual(how_many_fit(heads=heads, bundle=[((), 1)], curve=five), 5)
        self.assertEqual(bar_numbers(heads=heads, bundle=[((), 1)], curve=five), [])
        self.assertEqual(least_far(heads=heads, bundle=[], curve=five)[0], 1)
        told = heads_with(numbers=[3], place=one, bundle=[], curve=five)
        self.assertEqual(bar_numbers(five, [], told), [3])

    def test_wrong_arguments(self):
        for curve in [one for p in PRIMES for one in curves_over(p)[p % 8::8]]:
            curves, bundles = (InvalidCurve, wrong_curves()), (InvalidBundle, wrong_bundles(curve)[::2])
            x = Function(curve, [0, 1], [], [1])
            good = {"curve": curve, "bundle": [((), 1)], "heads": [(by_degree(curve)[1], x)]}
            wrong = {"curve": curves, "bundle": bundles, "heads": (InvalidHeads, wrong_heads(curve)[::2])}
            functions = (InvalidFunction, functions_of_other_curves(curve))
            for call in (fits, is_bar):
                for one in (x, Function(curve, [], [], [1])):
                    assert_each_refused(self, call, {**good, "function": one}, {**wrong, "function": functions})
            for call in (fitting, how_many_fit, bar_numbers):
                assert_each_refused(self, call, good, wrong)
            far = [((), x)], [((), x), *good["heads"]]
            assert_each_refused(self, least_far, good, {
                **wrong, "heads": (InvalidHeads, [*wrong["heads"][1], *far])})
            size = len(differentials_above(curve, good["bundle"]))
            assert_each_refused(self, heads_with, {**{name: good[name] for name in ("curve", "bundle")}, "place": (),
                                                   "numbers": [0] * size}, {
                "curve": curves, "bundle": bundles, "place": (InvalidPlace, wrong_places(curve)[::4]),
                "numbers": (InvalidList, wrong_number_lists(curve.prime(), size))})

    def test_values_that_are_no_heads(self):
        for curve in all_curves()[::7]:
            for value in wrong_heads(curve):
                assert_refused(self, InvalidHeads, value, how_many_fit, curve, [], value)

    def test_arguments_stay_and_told_lists_belong_to_the_caller(self):
        for at, curve in enumerate(all_curves()[::3]):
            for bundle, heads in samples(curve, 60 + at, 4):
                kept = repr((bundle, [(place, tops(one)) for place, one in heads]))
                numbers = bar_numbers(curve, bundle, heads)
                first = list(numbers)
                word, one = fitting(curve, bundle, heads)
                numbers.append(1)
                self.assertEqual(bar_numbers(curve, bundle, heads), first)
                self.assertEqual(fitting(curve, bundle, heads), (word, one))
                self.assertIs(fits(curve, bundle, heads, one), word == "fits")
                self.assertIs(is_bar(curve, bundle, heads, one), word == "barred")
                near = [head for head in heads if head[0] != ()]
                self.assertEqual(least_far(curve, bundle, near), least_far(curve, bundle, near))
                self.assertEqual(repr((bundle, [(place, tops(one)) for place, one in heads])), kept)
                for part in lists_within(heads):
                    part.append(1)

    def test_told_heads_belong_to_the_caller(self):
        for curve in all_curves()[::3]:
            for place in [place for place in places_to_take(curve) if reckoning.degree(place) < 4]:
                size = len(differentials_above(curve, [((), -1)]))
                numbers = [1] * size
                kept = repr((place, numbers))
                told = heads_with(curve, [((), -1)], place, numbers)
                first = repr([(one, tops(head)) for one, head in told])
                assert_no_list_twice(self, [place, numbers, told])
                for part in lists_within(told):
                    part.append(1)
                again = heads_with(curve, [((), -1)], place, numbers)
                self.assertEqual(repr([(one, tops(head)) for one, head in again]), first)
                self.assertEqual(repr((place, numbers)), kept)

    def test_a_changed_list_is_read_anew(self):
        for curve in all_curves()[::4]:
            place = by_degree(curve)[1]
            heads, bundle = [(place, sign_taken(curve, place, -1))], [((), 20)]
            self.assertEqual(fitting(curve, bundle, heads)[0], "fits")
            number = least_far(curve, bundle, heads)[0]
            bundle[0] = ((), number - 1) if number != 1 else (by_degree(curve)[2], -30)
            self.assertEqual(fitting(curve, bundle, heads)[0], "barred")
            heads.clear()
            self.assertEqual(fitting(curve, bundle, heads)[0], "fits")


if __name__ == "__main__":
    unittest.main()
