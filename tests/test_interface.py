"""The interface: names, where they are defined, and the names of their arguments."""

import importlib
import inspect
import unittest

FUNCTIONS = {
    "curveheads.primes": {
        "is_prime": ["p", "value"], "how_many_primes": ["p", "power"], "primes_of": ["p", "power"],
        "factors": ["p", "one"]},
    "curveheads.functions": {
        "sum_of": ["one", "other"], "less_of": ["one", "other"], "product_of": ["one", "other"],
        "quotient_of": ["one", "other"], "power_of": ["function", "exponent"], "turned": ["function"],
        "norm": ["function"], "trace": ["function"], "far_order": ["function"], "lead": ["function"],
        "slope": ["function"], "pth_root": ["function"]},
    "curveheads.places": {
        "is_place": ["curve", "value"], "place_degree": ["curve", "place"], "place_turned": ["curve", "place"],
        "places_over": ["curve", "q"], "places_of": ["curve", "degree"]},
    "curveheads.orders": {"order_at": ["curve", "function", "place"]},
    "curveheads.fields": {
        "value_sum": ["curve", "place", "one", "other"], "value_product": ["curve", "place", "one", "other"],
        "value_quotient": ["curve", "place", "one", "other"], "value_norm": ["curve", "place", "value"],
        "value_trace": ["curve", "place", "value"]},
}
CLASSES = {
    "curveheads.errors": {name: ["value"] for name in (
        "CurveError", "InvalidPrime", "InvalidPolynomial", "InvalidNumber", "InvalidCurve", "InvalidFunction",
        "InvalidPlace", "InvalidBundle", "InvalidForm", "InvalidSeries", "InvalidHeads", "InvalidList", "Unlike",
        "TooMany")},
    "curveheads.curves": {"Curve": ["p", "f"]},
    "curveheads.functions": {"Function": ["curve", "top", "side", "bottom"]},
}
METHODS = {
    ("curveheads.curves", "Curve"): ["prime", "polynomial", "genus", "__eq__"],
    ("curveheads.functions", "Function"): ["curve", "top", "side", "bottom", "__eq__", "__bool__"],
}


class InterfaceTest(unittest.TestCase):
    def assert_defined(self, module, name, arguments):
        thing = getattr(importlib.import_module(module), name)
        self.assertEqual(thing.__module__, module)
        self.assertEqual(list(inspect.signature(thing).parameters), arguments)
        return thing

    def test_functions(self):
        for module, names in FUNCTIONS.items():
            for name, arguments in names.items():
                self.assertTrue(inspect.isfunction(self.assert_defined(module, name, arguments)))

    def test_classes(self):
        for module, names in CLASSES.items():
            for name, arguments in names.items():
                self.assertTrue(inspect.isclass(self.assert_defined(module, name, arguments)))

    def test_methods_stand_in_their_class(self):
        for (module, name), methods in METHODS.items():
            one = getattr(importlib.import_module(module), name)
            for method in methods:
                self.assertIn(method, vars(one))


if __name__ == "__main__":
    unittest.main()
