"""Promise [3], for residues, heads, parts and descents: each function answers within seconds at its limits."""

import unittest

from curveheads.descents import descent, descent_bundle, descent_matrix, points_rest, standing
from curveheads.differentials import differentials_above
from curveheads.functions import Function, product_of, quotient_of, sum_of
from curveheads.heads import bar_numbers, fits, fitting, heads_with, how_many_fit, is_bar, least_far
from curveheads.parts import of_parts, parts
from curveheads.residues import has_residues, residue, residues, with_residues
from tests import reckoning
from tests.bundle_samples import in_order, place_key
from tests.head_samples import by_degree, orders_at, sign_taken, summing_to, with_degrees
from tests.place_samples import branches, plain_place, wide_place
from tests.samples import PRIMES, Stream, curves_over, first_primes
from tests.space_samples import with_degree
from tests.test_limits import TimedTest, great_function, great_polynomial
from tests.test_limits_of_spaces import great_bundles


def great_poles(curve, seed):
    """A function with polynomials of the power 200, the bottom a product of 16 prime polynomials of the power 12."""
    above = great_function(curve, seed)
    below = great_polynomial(curve, first_primes(curve.prime(), 12, 16))
    return quotient_of(product_of(above, Function(curve, [1], [], [1])), below)


def six_places(curve):
    """The far place, and five near ones: a branch and a wide place among them."""
    told = by_degree(curve)
    plain = [place for place in told if place and place[1]][:3]
    wide = [place for place in told if place and place[1] is None][:1]
    return sorted([(), *plain, *wide, *branches(curve)[:1]], key=place_key)


def great_heads(curve, places, seed, most):
    """Heads with orders of down to -12 that, each times the degree of its place, sum to about -40 at the lowest."""
    p, stream, left = curve.prime(), Stream(seed), 40
    found = []
    for place in places:
        order = min(12, left // reckoning.degree(place))
        left -= order * reckoning.degree(place)
        regular = Function(curve, stream.full_polynomial(p, most), stream.full_polynomial(p, most), [1])
        if place == ():
            regular = Function(curve, [1 + stream.below(p - 1)], [], [1])
        one = product_of(regular, sign_taken(curve, place, -order)) if order else regular
        found.append((place, sum_of(one, regular)))
    return found


class ResiduesLimitsTest(TimedTest):
    def test_functions_of_the_power_200(self):
        for p in PRIMES:
            for curve in curves_over(p)[1::2]:
                one = great_function(curve, 1)
                for place in [*six_places(curve), plain_place(curve, 12), wide_place(curve, 12)]:
                    q = place[0] if place else [0, 1]
                    below = great_polynomial(curve, [reckoning.taken(p, q, 40 // (len(q) - 1))] * 5)
                    for z in (one, quotient_of(Function(curve, [1], [1], [1]), below), quotient_of(one, below)):
                        self.assertIn(self.within_seconds(residue, curve, z, place), range(p))

    def test_all_residues(self):
        for p in PRIMES:
            for curve in curves_over(p)[3::4]:
                primes = first_primes(p, 12, 16)
                one = quotient_of(Function(curve, [1] * 61, [1] * 61, [1]), great_polynomial(curve, primes))
                told = self.within_seconds(residues, curve, one)
                self.assertEqual(sum(number for _, number in told) % p, 0)

    def test_told_residues(self):
        for p in PRIMES:
            for curve in curves_over(p)[1::2]:
                high = [plain_place(curve, 12), wide_place(curve, 12)]
                lists = [high, [*high, ()], with_degrees(curve, 12, 40) or by_degree(curve)[:9]]
                for at, places in enumerate(lists):
                    told = summing_to(curve, places, 0, at)
                    z = self.within_seconds(with_residues, curve, told)
                    self.assertIs(self.within_seconds(has_residues, curve, z, told), True)
                    self.assertIs(self.within_seconds(has_residues, curve, great_function(curve, 2), told), False)
                    self.assertIsNone(self.within_seconds(with_residues, curve, summing_to(curve, places, 1, at)))


class HeadsLimitsTest(TimedTest):
    def assert_answers(self, curve, bundle, heads):
        word, one = self.within_seconds(fitting, curve, bundle, heads)
        self.assertIs(self.within_seconds(fits, curve, bundle, heads, one), word == "fits")
        self.assertIs(self.within_seconds(is_bar, curve, bundle, heads, one), word == "barred")
        self.assertIs(self.within_seconds(how_many_fit, curve, bundle, heads) > 0, word == "fits")
        self.assertIs(any(self.within_seconds(bar_numbers, curve, bundle, heads)), word == "barred")
        near = [head for head in heads if head[0] != ()]
        found = self.within_seconds(least_far, curve, bundle, near)
        if found is not None:
            enough = in_order([((), found[0]), *[row for row in bundle if row[0] != ()]])
            self.assertEqual(self.within_seconds(fitting, curve, enough, near)[0], "fits")

    def test_heads_at_six_places(self):
        for p in PRIMES:
            for curve in curves_over(p)[p % 4::4]:
                low = sorted(by_degree(curve)[:6], key=place_key)
                lists = [great_heads(curve, six_places(curve), 1, 3), great_heads(curve, low, 2, 60)]
                self.assertEqual([len(heads) for heads in lists], [6, 6])
                self.assertEqual(orders_at(curve, (), lists[1][0][1]), -12)
                for at, bundle in enumerate(great_bundles(curve)):
                    self.assert_answers(curve, bundle, lists[at % 2])

    def test_heads_at_places_of_the_power_12(self):
        for p in PRIMES:
            for curve in curves_over(p)[p % 4::4]:
                places = sorted([plain_place(curve, 12), wide_place(curve, 12)], key=place_key)
                for bundle in great_bundles(curve)[5::2]:
                    self.assert_answers(curve, bundle, great_heads(curve, places, 3, 5))

    def test_functions_of_the_power_200(self):
        for p in PRIMES:
            for curve in curves_over(p)[3::4]:
                one, other = great_function(curve, 1), great_function(curve, 2)
                heads = [(place, one) for place in six_places(curve)[1:]]
                for bundle in great_bundles(curve)[3::6]:
                    self.within_seconds(fitting, curve, bundle, heads)
                    self.within_seconds(bar_numbers, curve, bundle, heads)
                    for function in (one, other):
                        self.within_seconds(fits, curve, bundle, heads, function)
                        self.within_seconds(is_bar, curve, bundle, heads, function)

    def test_heads_with_told_numbers(self):
        for p in PRIMES:
            for curve in curves_over(p)[1::2]:
                stream = Stream(4)
                low = [place for place in by_degree(curve) if reckoning.degree(place) < 4]
                for place in [low[0], low[1], low[-1]]:
                    for number in (-10, 10):
                        others = [row for row in great_bundles(curve)[-1] if row[0] not in (place, ())][:6]
                        beside = with_degree(others, -10) if place else [(low[1], -(10 // reckoning.degree(low[1])))]
                        bundle = in_order([row for row in beside if row[0] != place] + [(place, number)])
                        numbers = [stream.below(p) for _ in differentials_above(curve, bundle)]
                        told = self.within_seconds(heads_with, curve, bundle, place, numbers)
                        self.assertEqual(self.within_seconds(bar_numbers, curve, bundle, told), numbers)


class DescentsLimitsTest(TimedTest):
    def test_parts_of_functions_of_the_power_60(self):
        for p in PRIMES:
            for curve in curves_over(p)[1::2]:
                stream = Stream(5)
                one = Function(curve, *[stream.full_polynomial(p, 60) for _ in range(3)])
                told = self.within_seconds(parts, one)
                self.assertEqual(self.within_seconds(of_parts, curve, told), one)
                self.assertEqual(self.within_seconds(descent, one), told[-1])

    def test_functions_made_of_parts(self):
        for p in PRIMES:
            for curve in curves_over(p)[1::2]:
                stream = Stream(6)
                low = [stream.full_polynomial(p, 10) for _ in range(3)]
                told = [Function(curve, stream.full_polynomial(p, 12), stream.full_polynomial(p, 12), low[at % 3])
                        for at in range(p)]
                one = self.within_seconds(of_parts, curve, told)
                self.assertGreater(len(one.bottom()), 25 * p)
                self.assertEqual(self.within_seconds(parts, one), told)

    def test_bundles_matrices_and_points(self):
        for p in PRIMES:
            for curve in curves_over(p)[p % 4::4]:
                for bundle in great_bundles(curve)[-2:]:
                    self.within_seconds(descent_bundle, curve, bundle)
                self.within_seconds(descent_matrix, curve)
                self.within_seconds(standing, curve)
                self.assertIn(self.within_seconds(points_rest, curve, 10 ** 30 - 1), range(p))


if __name__ == "__main__":
    unittest.main()
