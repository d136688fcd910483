"""The examples of the document, row by row, with the answers that stand there."""

import unittest

from curveheads.bundles import (
    bundle_degree, bundle_of, bundle_sum, bundle_times, bundle_turned, is_bundle, number_at, poles_of)
from curveheads.curves import Curve
from curveheads.descents import descent, descent_bundle, descent_matrix, points_rest, standing
from curveheads.differentials import (
    differential_bundle, differential_order, differentials_above, is_above, parts_without_poles, without_poles)
from curveheads.fields import value_norm, value_product, value_quotient, value_sum, value_trace
from curveheads.forms import composed, form_bundle, form_of, form_opposite, is_form, shares
from curveheads.functions import (
    Function, far_order, lead, less_of, norm, power_of, product_of, pth_root, quotient_of, slope, sum_of, trace, turned)
from curveheads.gaps import gap_differential, gaps, is_with_pole, pair_gaps, with_pole, with_poles
from curveheads.heads import bar_numbers, fits, fitting, heads_with, how_many_fit, is_bar, least_far
from curveheads.joined import is_joining, is_of_function, joining, least_form
from curveheads.orders import order_at
from curveheads.parts import of_parts, parts
from curveheads.places import is_place, place_degree, place_turned, places_of, places_over
from curveheads.primes import factors, how_many_primes, is_prime, primes_of
from curveheads.reduced import least_two, lets, near_parts, nearly_lets, two_fars
from curveheads.relations import degree, is_relation, relation, share
from curveheads.residues import has_residues, residue, residues, with_residues
from curveheads.series import begun, is_series, local_sign, series, value_at
from curveheads.slopes import divided_slopes_in, slopes_in, whose_divided_slope, whose_slope
from curveheads.spaces import dual, first_along, fixed_part, space_basis, space_made, space_parts, space_size
from curveheads.symbols import symbol, symbols


class DocumentTest(unittest.TestCase):
    def test_prime_polynomials(self):
        told = [is_prime(3, [1, 0, 1]), is_prime(3, [2, 0, 1]), [how_many_primes(3, power) for power in range(1, 6)],
                primes_of(3, 2), factors(3, [0, 2, 0, 2]), factors(3, [2])]
        self.assertEqual(told, [True, False, [3, 3, 8, 18, 48], [[1, 0, 1], [2, 1, 1], [2, 2, 1]],
                                [([0, 1], 1), ([1, 0, 1], 1)], []])

    def test_curves(self):
        told = [Curve(5, [1, 1, 0, 1]).genus(), Curve(3, [0, 2, 0, 1]).polynomial(), Curve(7, [3, 1]).genus(),
                Curve(3, [1, 0, 0, 0, 0, 1]).prime()]
        self.assertEqual(told, [1, [0, 2, 0, 1], 0, 3])


class FunctionsTest(unittest.TestCase):
    def setUp(self):
        self.curve = curve = Curve(5, [1, 1, 0, 1])
        self.x, self.y, self.one = [Function(curve, *told) for told in
                                    (([0, 1], [], [1]), ([], [1], [1]), ([1], [], [1]))]

    def test_least_forms_sums_and_products(self):
        curve, x, y, one = self.curve, self.x, self.y, self.one
        told = [[z.top(), z.side(), z.bottom()] for z in [
            Function(curve, [0, 2], [0, 4], [0, 0, 2]), product_of(y, y), quotient_of(one, y), sum_of(x, y),
            less_of(x, x)]]
        self.assertEqual(told, [
            [[1], [2], [0, 1]], [[1, 1, 0, 1], [], [1]], [[], [1], [1, 1, 0, 1]], [[0, 1], [1], [1]], [[], [], [1]]])

    def test_norms_and_powers(self):
        x, y, one = self.x, self.y, self.one
        told = [norm(sum_of(x, y)).top(), trace(sum_of(x, y)).top(), turned(y).side(), power_of(x, -2).bottom(),
                power_of(y, 3).side(), power_of(y, 0) == one]
        self.assertEqual(told, [[4, 4, 1, 4], [0, 2], [4], [0, 0, 1], [1, 1, 0, 1], True])

    def test_bool(self):
        self.assertEqual([bool(self.x), bool(less_of(self.x, self.x))], [True, False])

    def test_far_orders(self):
        x, y, one = self.x, self.y, self.one
        told = [far_order(x), far_order(y), far_order(quotient_of(x, y)), far_order(one), lead(sum_of(x, y)),
                lead(quotient_of(x, product_of(y, y)))]
        self.assertEqual(told, [2, 3, -1, 0, 1, 1])

    def test_slopes(self):
        x, y = self.x, self.y
        told = [[z.top(), z.side(), z.bottom()] for z in [
            slope(x), slope(product_of(x, x)), slope(y), slope(power_of(y, 5))]]
        self.assertEqual(told, [
            [[1], [], [1]], [[0, 2], [], [1]], [[], [3, 0, 4], [1, 1, 0, 1]], [[], [], [1]]])

    def test_roots(self):
        curve, x, y = self.curve, self.x, self.y
        told = [pth_root(power_of(sum_of(x, y), 5)) == sum_of(x, y), pth_root(x),
                pth_root(Function(curve, [3], [], [1])).top()]
        self.assertEqual(told, [True, None, [3]])


class PlacesTest(unittest.TestCase):
    def setUp(self):
        self.five, self.three, self.wide = Curve(5, [1, 1, 0, 1]), Curve(3, [0, 2, 0, 1]), ([4, 1], None)

    def test_places(self):
        five, three, wide = self.five, self.three, self.wide
        told = [is_place(five, ()), is_place(five, ([0, 1], [1])), is_place(five, ([0, 1], [2])), is_place(five, wide),
                is_place(three, ([0, 1], [])), place_degree(five, wide), place_degree(five, ([1, 1, 0, 1], [])),
                place_turned(five, ([0, 1], [1]))]
        self.assertEqual(told, [True, True, False, True, True, 2, 3, ([0, 1], [4])])

    def test_lists_of_places(self):
        five, three = self.five, self.three
        told = [places_over(five, [1, 1]), places_over(five, [4, 1]), places_of(three, 1), len(places_of(five, 1))]
        self.assertEqual(told, [
            [([1, 1], [2]), ([1, 1], [3])], [([4, 1], None)], [(), ([0, 1], []), ([1, 1], []), ([2, 1], [])], 9])

    def test_orders(self):
        five, three = self.five, self.three
        x, y = Function(five, [0, 1], [], [1]), Function(five, [], [1], [1])
        told = [order_at(five, x, ()), order_at(five, y, ()),
                order_at(five, Function(five, [4], [1], [1]), ([0, 1], [1])),
                order_at(three, Function(three, [0, 1], [], [1]), ([0, 1], [])),
                order_at(five, Function(five, [], [], [1]), ())]
        self.assertEqual(told, [-2, -3, 1, 2, None])

    def test_values(self):
        five, wide = self.five, self.wide
        told = [value_sum(five, wide, ([1], [2]), ([4], [3])), value_product(five, wide, ([], [1]), ([], [1])),
                value_quotient(five, wide, ([1], []), ([], [1])), value_norm(five, wide, ([], [1])),
                value_trace(five, wide, ([1], [2]))]
        self.assertEqual(told, [([], []), ([3], []), ([], [2]), 2, 2])

    def test_values_of_functions(self):
        five, wide = self.five, self.wide
        x, y = Function(five, [0, 1], [], [1]), Function(five, [], [1], [1])
        told = [value_at(five, y, ([0, 1], [4])), value_at(five, y, wide), value_at(five, x, wide),
                value_at(five, y, ()), value_at(five, Function(five, [0, 0, 0, 1], [], [1, 1, 0, 1]), ())]
        self.assertEqual(told, [[4], ([], [1]), ([1], []), None, [1]])

    def test_series(self):
        five, three, wide = self.five, self.three, self.wide
        x, y = Function(five, [0, 1], [], [1]), Function(five, [], [1], [1])
        told = [series(five, y, ([0, 1], [1]), 4), series(five, x, (), 4), series(five, y, (), 2),
                series(three, Function(three, [0, 1], [], [1]), ([0, 1], []), 3), series(five, y, wide, 2)]
        self.assertEqual(told, [
            (0, [[1], [3], [3], [4]]), (-2, [[1], [], [], []]), (-3, [[1], []]), (2, [[2], [], []]),
            (0, [([], [1]), ([], [])])])

    def test_begun_functions(self):
        five, wide = self.five, self.wide
        told = [begun(five, ([0, 1], [1]), (-1, [[2], [], [1]])) == Function(five, [2, 0, 1], [], [0, 1]),
                local_sign(five, ()) == Function(five, [], [0, 1], [1, 1, 0, 1]),
                is_series(five, wide, (0, [([], [])])), is_series(five, (), (-2, [[1], []]))]
        self.assertEqual(told, [True, True, False, True])


class BundlesTest(unittest.TestCase):
    def setUp(self):
        self.five = Curve(5, [1, 1, 0, 1])
        self.one, self.other, self.third = ([0, 1], [1]), ([0, 1], [4]), ([1, 1], [2])
        self.x, self.y = Function(self.five, [0, 1], [], [1]), Function(self.five, [], [1], [1])

    def test_bundles(self):
        five, one, other = self.five, self.one, self.other
        told = [is_bundle(five, [((), -1), (one, 2)]), is_bundle(five, [(one, 2), ((), -1)]),
                is_bundle(five, [(one, 0)]), number_at(five, [(one, 2)], other),
                bundle_degree(five, [((), -1), (one, 2)])]
        self.assertEqual(told, [True, False, False, 0, 1])

    def test_sums_of_bundles(self):
        five, one, other = self.five, self.one, self.other
        told = [bundle_sum(five, [((), -1), (one, 2)], [((), 1), (other, 1)]), bundle_times(five, [(one, 2)], -2),
                bundle_turned(five, [((), 3), (one, 2)])]
        self.assertEqual(told, [[(([0, 1], [1]), 2), (([0, 1], [4]), 1)], [(([0, 1], [1]), -4)],
                                [((), 3), (([0, 1], [4]), 2)]])

    def test_bundles_of_functions(self):
        told = [bundle_of(self.five, self.x), bundle_of(self.five, self.y), poles_of(self.five, self.y)]
        self.assertEqual(told, [[((), -2), (([0, 1], [1]), 1), (([0, 1], [4]), 1)],
                                [((), -3), (([1, 1, 0, 1], []), 1)], [((), 3)]])

    def test_forms(self):
        five, one = self.five, self.one
        told = [form_of(five, [(one, 2)]), form_of(five, [((), -3), (([1, 1, 0, 1], []), 3)]),
                form_bundle(five, ([0, 1], [1], [1], [], 0)), is_form(five, ([1], [1], [0, 1], [2], 0))]
        self.assertEqual(told, [
            ([1], [1], [0, 0, 1], [1, 3], 0), ([1, 1, 0, 1], [1], [1, 1, 0, 1], [], -3),
            [(([0, 1], [1]), 1), (([0, 1], [4]), 1)], False])

    def test_composed_forms(self):
        five = self.five
        low, high = form_of(five, [(self.one, 1)]), form_of(five, [(self.other, 1)])
        told = [composed(five, low, low), composed(five, low, high), form_opposite(five, low),
                shares(five, low, Function(five, [4], [1], [1])), shares(five, low, Function(five, [1], [], [1]))]
        self.assertEqual(told, [
            ([1], [1], [0, 0, 1], [1, 3], 0), ([0, 1], [1], [1], [], 0), ([1], [0, 1], [0, 1], [4], 0), ([], [1]), None])

    def test_joined_bundles(self):
        five, one, third = self.five, self.one, self.third
        told = [least_form(five, [(one, 2)])[0],
                is_joining(five, [(one, 2)], [((), 1), (third, 1)], Function(five, [4, 2], [1], [1, 1])),
                joining(five, [(one, 1)], [((), 1)])]
        self.assertEqual(told, [([1], [1], [1, 1], [2], 1), True, None])

    def test_bundles_that_are_those_of_functions(self):
        five = self.five
        told = [is_of_function(five, bundle_of(five, self.x)), is_of_function(five, [((), -1), (self.one, 1)])]
        self.assertEqual(told, [True, False])


class SpacesTest(unittest.TestCase):
    def setUp(self):
        self.five, self.plain, self.turned = Curve(5, [1, 1, 0, 1]), ([0, 1], [1]), ([0, 1], [4])
        self.pole, self.two = [(self.plain, 1)], [(self.plain, 2), (self.turned, -1)]
        self.three = [((), 2), (self.plain, 1)]
        self.number, self.slant = Function(self.five, [1], [], [1]), Function(self.five, [1], [1], [0, 1])

    def test_functions_that_are_let(self):
        five, pole, two = self.five, self.pole, self.two
        told = [lets(five, pole, self.number), lets(five, pole, self.slant), nearly_lets(five, pole, self.slant),
                nearly_lets(five, two, self.number), two_fars(five, pole), two_fars(five, two),
                two_fars(five, [(self.plain, -2)])]
        self.assertEqual(told, [True, False, True, False, (0, 1), (0, 1), (4, 3)])

    def test_the_least_two(self):
        five, pole, two = self.five, self.pole, self.two
        told = [least_two(five, pole) == (self.number, self.slant), least_two(five, two) == (
            Function(five, [2, 1, 1], [2], [0, 0, 1]), Function(five, [4, 3], [4, 1], [0, 0, 1])),
                near_parts(five, pole, Function(five, [1, 0, 1], [1], [0, 1])), near_parts(five, two, self.number)]
        self.assertEqual(told, [True, True, ([0, 1], [1]), None])

    def test_spaces(self):
        five, pole, three = self.five, self.pole, self.three
        told = [space_size(five, three),
                space_basis(five, three) == [self.number, self.slant, Function(five, [0, 1], [], [1])],
                space_parts(five, three, Function(five, [1, 0, 2], [1], [0, 1])),
                space_made(five, three, [3, 0, 1]) == Function(five, [3, 1], [], [1]), space_size(five, pole),
                space_basis(five, [((), -1)])]
        self.assertEqual(told, [3, True, [0, 1, 2], True, 1, []])

    def test_duals_and_fixed_parts(self):
        five, plain = self.five, self.plain
        told = [dual(five, self.three), space_size(five, dual(five, self.three)), fixed_part(five, self.pole),
                fixed_part(five, [(plain, 1), (self.turned, 1)]), fixed_part(five, [(plain, -1)])]
        self.assertEqual(told, [[((), -2), (([0, 1], [1]), -1)], 0, [(([0, 1], [1]), 1)], [], None])

    def test_first_functions(self):
        five, plain, pole = self.five, self.plain, self.pole
        told = [first_along(five, [(plain, -2)], ()) == (3, Function(five, [4, 2], [1], [1])),
                first_along(five, pole, ()) == (0, self.number), first_along(five, pole, plain) == (-1, self.number),
                space_size(five, [(([4, 1], None), 1)])]
        self.assertEqual(told, [True, True, True, 2])


class DifferentialsTest(unittest.TestCase):
    def setUp(self):
        self.five, self.three = Curve(5, [1, 1, 0, 1]), Curve(3, [1, 2, 0, 0, 0, 1])
        self.one, self.two, self.bend = ([0, 1], [1]), ([0, 1], [4]), ([1, 1, 0, 1], [])
        self.over_x = Function(self.five, [1], [], [0, 1])
        self.over_y = Function(self.five, [], [1], [1, 1, 0, 1])

    def test_orders(self):
        five, over_x, over_y, bend = self.five, self.over_x, self.over_y, self.bend
        told = [differential_order(five, over_x, ()), differential_order(five, over_x, bend),
                differential_order(five, over_y, bend), differential_bundle(five, over_x),
                differential_bundle(five, over_y)]
        self.assertEqual(told, [-1, 1, 0, [
            ((), -1), (([0, 1], [1]), -1), (([0, 1], [4]), -1), (([1, 1, 0, 1], []), 1)], []])

    def test_differentials_above(self):
        five, three = self.five, self.three
        told = [len(differentials_above(five, [((), -2)])),
                is_above(five, self.over_x, [((), -1), (self.one, -1), (self.two, -2)]),
                is_above(five, self.over_x, []), without_poles(three) == [
                    Function(three, [], [1], [1, 2, 0, 0, 0, 1]), Function(three, [], [0, 1], [1, 2, 0, 0, 0, 1])]]
        self.assertEqual(told, [2, True, False, True])

    def test_parts_without_poles(self):
        five, three = self.five, self.three
        told = [parts_without_poles(five, Function(five, [], [2], [1, 1, 0, 1])),
                parts_without_poles(three, Function(three, [], [2, 1], [1, 2, 0, 0, 0, 1])),
                parts_without_poles(five, self.over_x)]
        self.assertEqual(told, [[2], [2, 1], None])

    def test_residues(self):
        five, over_x, one = self.five, self.over_x, self.one
        told = [residue(five, over_x, one), residue(five, over_x, ()),
                residue(five, Function(five, [1], [], [4, 1]), ([4, 1], None)), residues(five, over_x),
                residues(five, Function(five, [], [1], [0, 1]))]
        self.assertEqual(told, [1, 3, 2, [((), 3), (([0, 1], [1]), 1), (([0, 1], [4]), 1)],
                                [(([0, 1], [1]), 1), (([0, 1], [4]), 4)]])

    def test_residues_at_a_wide_place(self):
        five = self.five
        wide, taken = ([2, 0, 1], None), Function(five, [0, 0, 0, 1], [], [4, 0, 4, 0, 1])
        told = [residue(five, taken, wide), residue(five, taken, ()), residues(five, taken)]
        self.assertEqual(told, [2, 3, [((), 3), (([2, 0, 1], None), 2)]])

    def test_told_residues(self):
        five, one, two = self.five, self.one, self.two
        both = Function(five, [], [1], [0, 1, 1, 0, 1])
        told = [has_residues(five, both, [(one, 1), (two, 4)]),
                has_residues(five, self.over_x, [(one, 1), (two, 1)]), with_residues(five, [(one, 1)]),
                with_residues(five, [(one, 2), (two, 3)]) is None]
        self.assertEqual(told, [True, False, None, False])


class HeadsTest(unittest.TestCase):
    def setUp(self):
        self.five = Curve(5, [1, 1, 0, 1])
        self.one, self.two = ([0, 1], [1]), ([0, 1], [4])
        self.over_x, self.over_y = Function(self.five, [1], [], [0, 1]), Function(self.five, [], [1], [1, 1, 0, 1])

    def test_what_fits(self):
        five, one, two, over_x = self.five, self.one, self.two, self.over_x
        told = [fits(five, [], [(one, over_x), (two, over_x)], over_x), fits(five, [], [(one, over_x)], over_x),
                fits(five, [(two, 1)], [(one, over_x)], over_x),
                fits(five, [((), 2), (one, -1)], [], Function(five, [0, 1], [], [1])),
                fits(five, [((), 2), (one, -1)], [], Function(five, [3], [], [1]))]
        self.assertEqual(told, [True, False, True, True, False])

    def test_bars(self):
        five, one, two, over_x, over_y = self.five, self.one, self.two, self.over_x, self.over_y
        told = [is_bar(five, [], [(one, over_x)], over_y), is_bar(five, [], [(one, over_x), (two, over_x)], over_y),
                fitting(five, [], [(one, over_x)])[0], fitting(five, [], [(one, over_x), (two, over_x)])[0],
                how_many_fit(five, [], [(one, over_x)])]
        self.assertEqual(told, [True, False, "barred", "fits", 0])

    def test_numbers(self):
        five, one, two, over_x = self.five, self.one, self.two, self.over_x
        told = [how_many_fit(five, [], [(one, over_x), (two, over_x)]),
                how_many_fit(five, [((), 1)], [(one, over_x)]), bar_numbers(five, [((), 1)], [(one, over_x)]),
                len(bar_numbers(five, [], [(one, over_x)])),
                least_far(five, [], [(two, Function(five, [], [1], [1]))])]
        self.assertEqual(told, [5, 5, [], 1, None])

    def test_least_numbers_and_told_ones(self):
        five, one, two, over_x = self.five, self.one, self.two, self.over_x
        told = [least_far(five, [], [(one, over_x)])[0],
                least_far(five, [((), 7)], [(one, over_x), (two, over_x)])[0], len(heads_with(five, [], one, [3])),
                bar_numbers(five, [], heads_with(five, [], two, [3])) == [3]]
        self.assertEqual(told, [1, -2, 1, True])


class SlopesTest(unittest.TestCase):
    def setUp(self):
        self.bent, self.plain, self.two = Curve(3, [0, 2, 0, 1]), Curve(5, [1, 1, 0, 1]), Curve(3, [1, 0, 0, 0, 0, 1])
        self.y, self.back, self.low = [Function(self.bent, *told) for told in (
            ([], [1], [1]), ([], [1], [0, 2, 0, 1]), ([1], [], [0, 1]))]

    def test_parts_and_descents(self):
        y, low = self.y, self.low
        told = [[(part.top(), part.side(), part.bottom()) for part in parts(y)], of_parts(self.bent, parts(y)) == y,
                descent(y) == self.back, descent(low) == low]
        self.assertEqual(told, [
            [([], [0, 1], [2, 0, 1]), ([], [1], [2, 0, 1]), ([], [1], [0, 2, 0, 1])], True, True, True])

    def test_matrices_and_points(self):
        plain, two, line = self.plain, self.two, Curve(7, [3, 1])
        told = [descent_matrix(plain), descent_matrix(two), descent_matrix(line), standing(plain), standing(two),
                points_rest(plain, 1), points_rest(plain, 2), points_rest(two, 7), points_rest(line, 10 ** 20)]
        self.assertEqual(told, [[[2]], [[0, 1], [0, 0]], [], 1, 0, 4, 2, 1, 1])

    def test_slopes(self):
        bent, back = self.bent, self.back
        told = [descent_bundle(bent, [((), -4), (([0, 1], []), 3)]),
                whose_slope(back) == Function(bent, [], [1, 0, 1], [1, 0, 1, 0, 1]), slope(whose_slope(back)) == back,
                whose_slope(self.y)]
        self.assertEqual(told, [[((), -2), (([0, 1], []), 1)], True, True, None])

    def test_divided_slopes(self):
        bent, low = self.bent, self.low
        found = whose_divided_slope(low)
        told = [slope(found) == product_of(low, found), whose_divided_slope(self.y), len(slopes_in(bent, [])),
                len(divided_slopes_in(bent, [])), len(divided_slopes_in(bent, [((), -1), (([0, 1], []), -1)]))]
        self.assertEqual(told, [True, None, 1, 0, 1])


class GapsTest(unittest.TestCase):
    def setUp(self):
        self.five, self.wide = Curve(5, [1, 1, 0, 1]), Curve(3, [1, 0, 0, 0, 0, 1])
        self.one, self.low = ([0, 1], [1]), ([0, 1], [1])

    def test_gaps(self):
        told = [gaps(self.five, ()), gaps(self.five, self.one), gaps(self.wide, ()), gaps(self.wide, self.low)]
        self.assertEqual(told, [[1], [1], [1, 3], [1, 2]])

    def test_functions_with_a_pole(self):
        five = self.five
        told = [with_pole(five, (), 1), is_with_pole(five, (), 2, Function(five, [1, 3], [], [1])),
                is_with_pole(five, (), 2, Function(five, [], [1], [1])), is_with_pole(five, (), 1, None)]
        self.assertEqual(told, [None, True, False, False])

    def test_differentials_and_pairs(self):
        five, one = self.five, self.one
        told = [gap_differential(five, (), 2), pair_gaps(five, (), one), with_poles(five, (), one, (1, 0)),
                gaps(Curve(7, [3, 1]), ())]
        self.assertEqual(told, [None, [(0, 1), (1, 0)], None, []])


class TwoFunctionsTest(unittest.TestCase):
    def setUp(self):
        curve = Curve(5, [1, 1, 0, 1])
        self.x, self.y, self.two = [Function(curve, *told) for told in (
            ([0, 1], [], [1]), ([], [1], [1]), ([2], [], [1]))]

    def test_degrees(self):
        x, y, two = self.x, self.y, self.two
        told = [degree(x), degree(y), degree(quotient_of(two, x)), degree(sum_of(x, y)),
                degree(Function(x.curve(), [1], [2], [0, 1])), degree(two)]
        self.assertEqual(told, [2, 3, 2, 3, 3, 0])

    def test_relations(self):
        x, y = self.x, self.y
        told = [relation(x, y), relation(x, x), relation(x, product_of(x, x)),
                is_relation(x, y, [(0, 0, 4), (0, 2, 1), (1, 0, 4), (3, 0, 4)]), is_relation(x, y, [(0, 2, 1)])]
        self.assertEqual(told, [[(0, 0, 1), (0, 2, 4), (1, 0, 1), (3, 0, 1)], [(0, 1, 4), (1, 0, 1)],
                                [(0, 1, 4), (2, 0, 1)], True, False])

    def test_shares(self):
        x, y = self.x, self.y
        told = [share(x, y), share(x, product_of(x, x)), share(x, product_of(y, y)), share(y, y)]
        self.assertEqual(told, [1, 2, 2, 3])

    def test_symbols(self):
        x, y, two = self.x, self.y, self.two
        told = [symbols(x, y), symbol(x, y, ()), symbol(x, y, ([0, 1], [1])), symbol(y, x, ([1, 1, 0, 1], [])),
                symbols(two, x), symbols(two, two)]
        self.assertEqual(told, [[(([0, 1], [4]), 4), (([1, 1, 0, 1], []), 4)], 1, 1, 4,
                                [((), 4), (([0, 1], [1]), 2), (([0, 1], [4]), 2)], []])


if __name__ == "__main__":
    unittest.main()
