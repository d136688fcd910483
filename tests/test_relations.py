"""Promises [46] to [48]: degrees of functions, and the relations of two. With [2]."""

import unittest

from curveheads.bundles import bundle_of, poles_of
from curveheads.curves import Curve
from curveheads.errors import InvalidFunction, Unlike
from curveheads.functions import Function, less_of, power_of, product_of, quotient_of, sum_of
from curveheads.relations import degree, is_relation, relation, share
from tests import reckoning
from tests.independence import rank_of_functions
from tests.samples import (
    PRIMES, Stream, all_curves, assert_each_refused, assert_refused, curves_over, lists_within, mixed_functions, nested,
    plain_functions, tops, wrong_functions)
from tests.space_samples import degree_of, low_functions


def is_number(one):
    return not one.side() and one.bottom() == [1] and len(one.top()) < 2


def powers_of(curve, one, most):
    p, f = curve.prime(), curve.polynomial()
    found = [([1], [], [1])]
    for _ in range(most):
        found.append(reckoning.function_product(p, f, found[-1], tops(one)))
    return found


def is_nought(curve, one, other, told):
    """Whether the terms of a relation sum to nought."""
    p, f = curve.prime(), curve.polynomial()
    left = powers_of(curve, one, max(i for i, _, _ in told))
    right = powers_of(curve, other, max(j for _, j, _ in told))
    total = ([], [], [1])
    for i, j, number in told:
        taken = reckoning.function_product(p, f, left[i], right[j])
        taken = reckoning.function_product(p, f, taken, ([number], [], [1]))
        total = reckoning.function_sum(p, total, taken)
    return not total[0] and not total[1]


def low_degrees(curve, seed, many, most=6):
    """Functions of a degree of at most so much that are no numbers."""
    p, stream, found = curve.prime(), Stream(seed), []
    for at in range(400):
        told = [stream.polynomial(p, at % 4), stream.polynomial(p, at % 2) if at % 3 else [], stream.full_polynomial(
            p, stream.below(4))]
        one = Function(curve, *told)
        if not is_number(one) and degree(one) <= most and one not in found:
            found.append(one)
        if len(found) == many:
            break
    return found


class DegreeTest(unittest.TestCase):
    def test_degrees_by_poles(self):
        for at, curve in enumerate(all_curves()):
            for one in low_functions(curve, at, 6):
                told = degree(one)
                self.assertIs(type(told), int)
                self.assertEqual(told, degree_of(poles_of(curve, one)))
                zeros = [row for row in bundle_of(curve, one) if row[1] > 0]
                self.assertEqual(told, degree_of(zeros))

    def test_numbers_and_nought(self):
        for curve in all_curves():
            for number in range(curve.prime()):
                self.assertEqual(degree(Function(curve, [number] if number else [], [], [1])), 0)

    def test_plain_functions(self):
        for curve in all_curves():
            f, m = curve.polynomial(), len(curve.polynomial()) - 1
            for told, wanted in [(([0, 1], [], [1]), 2), (([], [1], [1]), m), (([1], [], [0, 1]), 2), (([], [1], f), m),
                                 (([0, 0, 1], [1], [1]), max(4, m)), (([1], [], [1, 0, 1]), 4), (([], [1], [1]), m)]:
                self.assertEqual(degree(Function(curve, *told)), wanted)

    def test_each_number_is_had_as_often(self):
        for at, curve in enumerate(all_curves()):
            for one in low_degrees(curve, at, 4):
                for number in range(curve.prime()):
                    other = less_of(one, Function(curve, [number] if number else [], [], [1]))
                    self.assertEqual(degree(other), degree(one))
                    zeros = [row for row in bundle_of(curve, other) if row[1] > 0]
                    self.assertEqual(degree_of(zeros), degree(one))
                self.assertEqual(degree(quotient_of(Function(curve, [1], [], [1]), one)), degree(one))

    def test_powers(self):
        for at, curve in enumerate(all_curves()):
            for one in mixed_functions(curve, at, 2, 3):
                for exponent in (2, 3, -2):
                    if one:
                        self.assertEqual(degree(power_of(one, exponent)), abs(exponent) * degree(one))

    def test_poles_that_a_zero_of_the_norm_undoes(self):
        # At the place turned about the function has no pole, so it counts but once.
        for curve in all_curves():
            p, f = curve.prime(), curve.polynomial()
            for place in [reckoning.places_by_trying(p, f, q)[0] for q in reckoning.kept_primes(p, 1)]:
                if place[1]:
                    for times in (1, 2, 3):
                        root = reckoning.lifted(p, f, place, times)
                        one = Function(curve, root, [1], reckoning.taken(p, place[0], times))
                        far = reckoning.order(p, f, tops(one), ())
                        self.assertEqual(degree(one), times + max(0, -far))


class RelationTest(unittest.TestCase):
    def assert_relation(self, curve, one, other, told):
        self.assertIs(type(told), list)
        self.assertTrue(all(type(term) is tuple and len(term) == 3 for term in told))
        self.assertTrue(all(type(part) is int for term in told for part in term))
        self.assertEqual(told, sorted(told))
        self.assertEqual(len({term[:2] for term in told}), len(told))
        self.assertTrue(all(0 < number < curve.prime() for _, _, number in told))
        self.assertEqual(told[-1][2], 1)
        self.assertTrue(is_nought(curve, one, other, told))
        # No relation has lower powers: all products of these are independent.
        i, j = max(term[0] for term in told), max(term[1] for term in told)
        left, right = powers_of(curve, one, i), powers_of(curve, other, j)
        for most_i, most_j in ((i - 1, j), (i, j - 1)):
            every = [product_of(Function(curve, *left[by]), Function(curve, *right[at]))
                     for by in range(most_i + 1) for at in range(most_j + 1)]
            self.assertEqual(rank_of_functions(curve.prime(), every), len(every))
        number = share(one, other)
        self.assertIs(type(number), int)
        self.assertEqual((j * number, i * number), (degree(one), degree(other)))
        self.assertIs(is_relation(one, other, told), True)

    def test_functions_of_low_degrees(self):
        for at, curve in enumerate(all_curves()):
            told = low_degrees(curve, at, 5, 4 if at % 4 else 5)
            for one, other in zip(told, told[1:]):
                self.assert_relation(curve, one, other, relation(one, other))

    def test_functions_of_degree_6(self):
        for at, curve in enumerate(curves_over(3) + curves_over(7)[1::3]):
            told = [one for one in low_degrees(curve, at, 40) if degree(one) == 6]
            self.assertGreater(len(told), 1)
            self.assert_relation(curve, told[0], told[1], relation(told[0], told[1]))

    def test_x_and_y(self):
        for curve in all_curves():
            p, f = curve.prime(), curve.polynomial()
            if len(f) > 7:
                continue
            x, y = Function(curve, [0, 1], [], [1]), Function(curve, [], [1], [1])
            # The last tuple is that of the highest power of x, which f tells.
            wanted = sorted([(power, 0, number) for power, number in enumerate(f) if number] + [(0, 2, p - 1)])
            self.assertEqual(relation(x, y), wanted)
            self.assertEqual(share(x, y), 1)
            self.assert_relation(curve, y, x, relation(y, x))

    def test_a_function_with_itself_and_its_square(self):
        for at, curve in enumerate(all_curves()):
            p = curve.prime()
            for one in low_degrees(curve, at, 3, 3):
                self.assertEqual(relation(one, one), [(0, 1, p - 1), (1, 0, 1)])
                self.assertEqual(share(one, one), degree(one))
                square = product_of(one, one)
                self.assertEqual(relation(one, square), [(0, 1, p - 1), (2, 0, 1)])
                self.assertEqual(relation(square, one), [(0, 2, p - 1), (1, 0, 1)])
                self.assertEqual(share(one, square), degree(one))
                over = quotient_of(Function(curve, [1], [], [1]), one)
                self.assertEqual(relation(one, over), [(0, 0, p - 1), (1, 1, 1)])

    def test_functions_of_one_function(self):
        # Polynomials of powers without a common factor in one function have its degree for their share.
        for at, curve in enumerate(all_curves()):
            number = Function(curve, [1], [], [1])
            for one in low_degrees(curve, at, 2, 2):
                high = sum_of(product_of(one, one), one)
                cube = sum_of(power_of(one, 3), number)
                self.assertEqual(share(high, cube), degree(one))
                self.assert_relation(curve, high, cube, relation(high, cube))

    def test_pth_powers(self):
        for curve in curves_over(3):
            x = Function(curve, [0, 1], [], [1])
            self.assertEqual(relation(x, power_of(x, 3)), [(0, 1, 2), (3, 0, 1)])
            self.assertEqual(relation(power_of(x, 3), x), [(0, 3, 2), (1, 0, 1)])

    def test_shares_of_1(self):
        for at, curve in enumerate(all_curves()):
            told = low_degrees(curve, at, 8, 5)
            for one, other in zip(told, told[1:]):
                if degree(one) % 2 and degree(other) == 2:
                    self.assertEqual(share(one, other), 1)


class IsRelationTest(unittest.TestCase):
    def times(self, p, told, factor):
        """The product of two relations, or of one and any terms."""
        found = {}
        for i, j, number in told:
            for more_i, more_j, times in factor:
                at = i + more_i, j + more_j
                found[at] = (found.get(at, 0) + number * times) % p
        return sorted((i, j, number) for (i, j), number in found.items() if number)

    def test_multiples(self):
        for at, curve in enumerate(all_curves()):
            p = curve.prime()
            one, other = low_degrees(curve, at, 2, 4)
            told = relation(one, other)
            for factor in ([(0, 0, p - 1)], [(1, 0, 1)], [(0, 3, 2)], [(0, 0, 1), (1, 1, 1)], [(0, 1, 1), (2, 0, 1)],
                           [(1, 2, 1)], told):
                many = self.times(p, told, factor)
                self.assertIs(is_relation(one, other, many), True)
                self.assertTrue(is_nought(curve, one, other, many))

    def test_powers_of_12_and_13(self):
        for at, curve in enumerate(all_curves()[::2]):
            p = curve.prime()
            one, other = low_degrees(curve, at, 2, 4)
            told = relation(one, other)
            i, j = max(term[0] for term in told), max(term[1] for term in told)
            self.assertIs(is_relation(one, other, self.times(p, told, [(12 - i, 12 - j, 1)])), True)
            self.assertIs(is_relation(one, other, self.times(p, told, [(13 - i, 0, 1)])), False)
            self.assertIs(is_relation(one, other, self.times(p, told, [(0, 13 - j, 1)])), False)

    def test_terms_that_do_not_sum_to_nought(self):
        many = [0, 0]
        for at, curve in enumerate(all_curves()):
            p = curve.prime()
            one, other = low_degrees(curve, at, 2, 3)
            told = relation(one, other)
            tried = [told[1:], told[:-1], [(0, 0, 1)], [(0, 1, 1)], [(1, 0, 1)], [(0, 1, p - 1), (1, 0, 1)]]
            tried += [told[:by] + [(i, j, number % (p - 1) + 1)] + told[by + 1:]
                      for by, (i, j, number) in enumerate(told)]
            tried += [[(j, i, number) for i, j, number in told]]
            for value in [sorted(value) for value in tried if value]:
                wanted = is_nought(curve, one, other, value)
                self.assertIs(is_relation(one, other, value), wanted)
                many[wanted] += 1
        self.assertGreater(many[0], 200)

    def test_values_that_are_no_relations(self):
        for at, curve in enumerate(all_curves()[::2]):
            p = curve.prime()
            one, other = low_degrees(curve, at, 2, 4)
            told = relation(one, other)
            i, j, number = told[-1]
            wrong = [None, True, 0, 1, "", "[]", [], (), {}, nested(30), tuple(told), told[::-1], told + told[-1:],
                     told[:1] + told, [list(term) for term in told], [told], {term: True for term in told}, one, curve,
                     [term[:2] for term in told], [term + (0,) for term in told], [(0, 0, 0)], [()], [None], [1], [[]]]
            for last in ((i, j, 0), (i, j, p), (i, j, number + p), (i, j, number - p), (i, j, True), (i, j, None),
                         (i, j, "1"), (i, j, [1]), (True, j, 1), (i, False, 1), (-1, j, 1), (i, -1, 1), (i, None, 1),
                         ("1", j, 1), ([i], j, 1), (i, (j,), 1), (i, j, 10 ** 29), (10 ** 29, j, 1), (13, 13, 1)):
                wrong.append(told[:-1] + [last])
            wrong += [told + [(12, 12, 0)], [(0, 0, 0)] * bool(told[0][:2] > (0, 0)) + told[:-1]]
            wrong += [told[:-1] + [(i, j, 1)] * 2, sorted(told[:-1] + [(i, j, 1), (i, j, p - 1)])]
            for value in wrong:
                self.assertIs(is_relation(one, other, value), False)
            self.assertIs(is_relation(one, other, told), True)

    def test_sums_of_a_term_and_its_opposite(self):
        # They sum to nought, but one tuple stands twice.
        for curve in all_curves()[::3]:
            x, y, p = Function(curve, [0, 1], [], [1]), Function(curve, [], [1], [1]), curve.prime()
            self.assertIs(is_relation(x, y, [(1, 0, 1), (1, 0, p - 1)]), False)


class ArgumentsTest(unittest.TestCase):
    def test_arguments_by_name(self):
        curve = Curve(5, [1, 1, 0, 1])
        x, y = Function(curve, [0, 1], [], [1]), Function(curve, [], [1], [1])
        self.assertEqual(degree(function=y), 3)
        self.assertEqual(relation(other=y, one=x), relation(x, y))
        self.assertIs(is_relation(value=relation(x, y), other=y, one=x), True)
        self.assertEqual(share(other=product_of(x, x), one=x), 2)

    def test_wrong_arguments(self):
        for curve in [one for p in PRIMES for one in curves_over(p)[p % 8::8]]:
            x = Function(curve, [0, 1], [], [1])
            numbers = [Function(curve, [number] if number else [], [], [1]) for number in (0, 1, curve.prime() - 1)]
            wrong = (InvalidFunction, wrong_functions() + numbers)
            assert_each_refused(self, degree, {"function": x}, {"function": (InvalidFunction, wrong_functions())})
            good = {"one": x, "other": x}
            for call in (relation, share):
                assert_each_refused(self, call, good, {"one": wrong, "other": wrong})
            for value in (None, [(0, 1, 1)], "1"):
                assert_each_refused(self, is_relation, {**good, "value": value}, {"one": wrong, "other": wrong})

    def test_functions_of_unlike_curves(self):
        for curve in all_curves()[::3]:
            x, f = Function(curve, [0, 1], [], [1]), curve.polynomial()
            for other_curve in (Curve(curve.prime(), [1, 1]), Curve(3 if curve.prime() > 3 else 5, [1, 1])):
                other, number = Function(other_curve, [0, 1], [], [1]), Function(other_curve, [1], [], [1])
                if other_curve == curve:
                    continue
                for call, more in ((relation, []), (share, []), (is_relation, [[(0, 1, 1)]]), (is_relation, [None])):
                    assert_refused(self, Unlike, other, call, x, other, *more)
                    assert_refused(self, InvalidFunction, number, call, x, number, *more)
                    assert_refused(self, InvalidFunction, number, call, number, x, *more)
            alike = Function(Curve(curve.prime(), list(f)), [0, 1], [], [1])
            self.assertEqual(relation(x, alike), relation(x, x))

    def test_arguments_stay_and_told_lists_belong_to_the_caller(self):
        for at, curve in enumerate(all_curves()[::3]):
            one, other = low_degrees(curve, at, 2, 4)
            kept = repr((tops(one), tops(other)))
            told = relation(one, other)
            first = repr(told)
            self.assertIs(is_relation(one, other, told), True)
            self.assertEqual(repr(told), first)
            for part in lists_within(told):
                part.append(1)
            self.assertEqual(repr(relation(one, other)), first)
            self.assertEqual(repr((tops(one), tops(other))), kept)

    def test_a_changed_list_is_read_anew(self):
        for at, curve in enumerate(all_curves()[::4]):
            one, other = low_degrees(curve, at, 2, 4)
            told = relation(one, other)
            last = told.pop()
            self.assertIs(is_relation(one, other, told), is_nought(curve, one, other, told))
            told.append(last)
            self.assertIs(is_relation(one, other, told), True)
            told.clear()
            self.assertIs(is_relation(one, other, told), False)

    def test_plain_functions_of_all_curves(self):
        for curve in all_curves():
            told = [one for one in plain_functions(curve) if not is_number(one) and degree(one) < 6]
            for one in told:
                self.assertIs(is_relation(one, told[0], relation(one, told[0])), True)


if __name__ == "__main__":
    unittest.main()
