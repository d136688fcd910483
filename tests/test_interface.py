"""The interface: names, where they are defined, and the names of their arguments."""

import importlib
import inspect
import unittest

FUNCTIONS = {
    "curveheads.primes": {
        "is_prime": ["p", "value"], "how_many_primes": ["p", "power"], "primes_of": ["p", "power"],
        "factors": ["p", "one"]},
    "curveheads.functions": {
        "sum_of": ["one", "other"], "less_of": ["one", "other"], "product_of": ["one", "other"],
        "quotient_of": ["one", "other"], "power_of": ["function", "exponent"], "turned": ["function"],
        "norm": ["function"], "trace": ["function"], "far_order": ["function"], "lead": ["function"],
        "slope": ["function"], "pth_root": ["function"]},
    "curveheads.places": {
        "is_place": ["curve", "value"], "place_degree": ["curve", "place"], "place_turned": ["curve", "place"],
        "places_over": ["curve", "q"], "places_of": ["curve", "degree"]},
    "curveheads.orders": {"order_at": ["curve", "function", "place"]},
    "curveheads.fields": {
        "value_sum": ["curve", "place", "one", "other"], "value_product": ["curve", "place", "one", "other"],
        "value_quotient": ["curve", "place", "one", "other"], "value_norm": ["curve", "place", "value"],
        "value_trace": ["curve", "place", "value"]},
    "curveheads.series": {
        "value_at": ["curve", "function", "place"], "local_sign": ["curve", "place"],
        "series": ["curve", "function", "place", "count"], "is_series": ["curve", "place", "value"],
        "begun": ["curve", "place", "told"]},
    "curveheads.bundles": {
        "is_bundle": ["curve", "value"], "number_at": ["curve", "bundle", "place"],
        "bundle_degree": ["curve", "bundle"], "bundle_sum": ["curve", "one", "other"],
        "bundle_times": ["curve", "bundle", "count"], "bundle_turned": ["curve", "bundle"],
        "bundle_of": ["curve", "function"], "poles_of": ["curve", "function"]},
    "curveheads.forms": {
        "is_form": ["curve", "value"], "form_of": ["curve", "bundle"], "form_bundle": ["curve", "form"],
        "composed": ["curve", "one", "other"], "form_opposite": ["curve", "form"],
        "shares": ["curve", "form", "function"]},
    "curveheads.joined": {
        "least_form": ["curve", "bundle"], "joining": ["curve", "one", "other"],
        "is_joining": ["curve", "one", "other", "value"], "is_of_function": ["curve", "bundle"]},
    "curveheads.reduced": {
        "lets": ["curve", "bundle", "function"], "nearly_lets": ["curve", "bundle", "function"],
        "least_two": ["curve", "bundle"], "two_fars": ["curve", "bundle"],
        "near_parts": ["curve", "bundle", "function"]},
    "curveheads.spaces": {
        "space_basis": ["curve", "bundle"], "space_size": ["curve", "bundle"],
        "space_parts": ["curve", "bundle", "function"], "space_made": ["curve", "bundle", "numbers"],
        "dual": ["curve", "bundle"], "fixed_part": ["curve", "bundle"],
        "first_along": ["curve", "bundle", "place"]},
    "curveheads.differentials": {
        "differential_order": ["curve", "z", "place"], "differential_bundle": ["curve", "z"],
        "differentials_above": ["curve", "bundle"], "is_above": ["curve", "z", "bundle"],
        "without_poles": ["curve"], "parts_without_poles": ["curve", "z"]},
    "curveheads.residues": {
        "residue": ["curve", "z", "place"], "residues": ["curve", "z"], "with_residues": ["curve", "told"],
        "has_residues": ["curve", "z", "told"]},
    "curveheads.heads": {
        "fits": ["curve", "bundle", "heads", "function"], "is_bar": ["curve", "bundle", "heads", "function"],
        "fitting": ["curve", "bundle", "heads"], "how_many_fit": ["curve", "bundle", "heads"],
        "bar_numbers": ["curve", "bundle", "heads"], "heads_with": ["curve", "bundle", "place", "numbers"],
        "least_far": ["curve", "bundle", "heads"]},
    "curveheads.parts": {"parts": ["one"], "of_parts": ["curve", "functions"]},
    "curveheads.descents": {
        "descent": ["one"], "descent_bundle": ["curve", "bundle"], "descent_matrix": ["curve"], "standing": ["curve"],
        "points_rest": ["curve", "count"]},
    "curveheads.slopes": {
        "whose_slope": ["one"], "whose_divided_slope": ["one"], "slopes_in": ["curve", "bundle"],
        "divided_slopes_in": ["curve", "bundle"]},
    "curveheads.gaps": {
        "gaps": ["curve", "place"], "with_pole": ["curve", "place", "order"],
        "is_with_pole": ["curve", "place", "order", "value"], "gap_differential": ["curve", "place", "order"],
        "pair_gaps": ["curve", "one", "other"], "with_poles": ["curve", "one", "other", "pair"]},
    "curveheads.relations": {
        "degree": ["function"], "relation": ["one", "other"], "is_relation": ["one", "other", "value"],
        "share": ["one", "other"]},
    "curveheads.symbols": {"symbol": ["one", "other", "place"], "symbols": ["one", "other"]},
}
CLASSES = {
    "curveheads.errors": {name: ["value"] for name in (
        "CurveError", "InvalidPrime", "InvalidPolynomial", "InvalidNumber", "InvalidCurve", "InvalidFunction",
        "InvalidPlace", "InvalidBundle", "InvalidForm", "InvalidSeries", "InvalidHeads", "InvalidList", "Unlike",
        "TooMany")},
    "curveheads.curves": {"Curve": ["p", "f"]},
    "curveheads.functions": {"Function": ["curve", "top", "side", "bottom"]},
}
METHODS = {
    ("curveheads.curves", "Curve"): ["prime", "polynomial", "genus", "__eq__"],
    ("curveheads.functions", "Function"): ["curve", "top", "side", "bottom", "__eq__", "__bool__"],
}


class InterfaceTest(unittest.TestCase):
    def assert_defined(self, module, name, arguments):
        thing = getattr(importlib.import_module(module), name)
        self.assertEqual(thing.__module__, module)
        self.assertEqual(list(inspect.signature(thing).parameters), arguments)
        return thing

    def test_functions(self):
        for module, names in FUNCTIONS.items():
            for name, arguments in names.items():
                self.assertTrue(inspect.isfunction(self.assert_defined(module, name, arguments)))

    def test_classes(self):
        for module, names in CLASSES.items():
            for name, arguments in names.items():
                self.assertTrue(inspect.isclass(self.assert_defined(module, name, arguments)))

    def test_methods_stand_in_their_class(self):
        for (module, name), methods in METHODS.items():
            one = getattr(importlib.import_module(module), name)
            for method in methods:
                self.assertIn(method, vars(one))


if __name__ == "__main__":
    unittest.main()
