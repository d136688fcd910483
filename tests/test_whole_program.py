"""Promise [2] over the whole program: equal calls return equal results, whatever lies between, and change nothing."""

import copy
import importlib
import unittest

from curveheads.curves import Curve
from curveheads.forms import form_of
from curveheads.functions import Function
from curveheads.relations import relation
from curveheads.series import series
from tests.bundle_samples import plain_and_turned
from tests.head_samples import by_degree, places_in_turn, sign_taken, summing_to
from tests.place_samples import branches
from tests.samples import PRIMES, all_curves, assert_no_list_twice, curves_over
from tests.space_samples import with_degree
from tests.test_interface import FUNCTIONS


def told_arguments(curve):
    """For each function of the interface one list of arguments, each by its name."""
    p, f = curve.prime(), curve.polynomial()
    one, other = Function(curve, [1, 1], [1], [0, 1]), Function(curve, [0, 1], [2], [1])
    x, y = Function(curve, [0, 1], [], [1]), Function(curve, [], [1], [1])
    plain, turned = plain_and_turned(curve)
    bundle = with_degree([(plain, 1), (branches(curve)[0], -1)], 1)
    more = with_degree([(turned, 2)], 0)
    heads = [((), y), (plain, sign_taken(curve, plain, -2))]
    told = summing_to(curve, places_in_turn(curve, 2, 3), 0, 3)
    value = ([1], [1]) if plain[1] is None else [1]
    low = by_degree(curve)[0]
    found = {
        "power": 3, "function": one, "exponent": -2, "degree": 2, "q": plain[0], "place": plain, "curve": curve, "p": p,
        "count": 3, "bundle": bundle, "numbers": [], "form": form_of(curve, bundle), "z": one, "told": told,
        "heads": heads, "functions": [one, other] * 6 + [one], "order": 6, "pair": (4, 3), "value": value}
    own = {
        "primes": {"value": plain[0], "one": f}, "functions": {"one": one, "other": other},
        "fields": {"one": value, "other": value}, "bundles": {"one": bundle, "other": more},
        "forms": {"one": form_of(curve, bundle), "other": form_of(curve, more)}, "joined": {"one": bundle, "other": more},
        "parts": {"one": one, "functions": [one, other] * (p // 2) + [x]}, "descents": {"one": one},
        "slopes": {"one": one}, "gaps": {"place": low, "one": (), "other": ()},
        "relations": {"one": x, "other": other, "value": relation(x, other)}, "symbols": {"one": x, "other": y},
        "places": {"value": plain}, "series": {"told": series(curve, y, plain, 3), "value": series(curve, y, plain, 3)}}
    return found, own


def all_calls(curve):
    """All functions of the interface with arguments."""
    found, own = told_arguments(curve)
    for module, names in FUNCTIONS.items():
        arguments = {**found, **own.get(module.split(".")[1], {})}
        for name, parameters in names.items():
            call = getattr(importlib.import_module(module), name)
            yield call, {one: arguments[one] for one in parameters}


def shown(value):
    """What tells a result apart from others."""
    if isinstance(value, Function):
        return "function", shown(value.curve()), value.top(), value.side(), value.bottom()
    if isinstance(value, Curve):
        return "curve", value.prime(), value.polynomial()
    if isinstance(value, (list, tuple)):
        return type(value).__name__, [shown(item) for item in value]
    if isinstance(value, dict):
        return {name: shown(item) for name, item in value.items()}
    return type(value).__name__, repr(value)


def answered(call, arguments):
    """The result of a call, or the error that it raises with the value in it."""
    try:
        return shown(call(**arguments))
    except ValueError as error:
        return type(error).__name__, shown(error.value)


class WholeProgramTest(unittest.TestCase):
    def test_equal_calls(self):
        for curve in [one for p in PRIMES for one in curves_over(p)[p % 3::3]]:
            calls = list(all_calls(curve))
            kept = [shown(arguments) for _, arguments in calls]
            first = [answered(call, copy.deepcopy(arguments)) for call, arguments in calls]
            again = [answered(call, arguments) for call, arguments in reversed(calls)]
            self.assertEqual(again[::-1], first)
            self.assertEqual([shown(arguments) for _, arguments in calls], kept)
            refused = [call.__name__ for (call, _), told in zip(calls, first) if told[0].startswith("Invalid")]
            # They ask for as many numbers as there are functions, for heads at near places, and for unlike places.
            self.assertLessEqual(set(refused), {
                "space_made", "heads_with", "least_far", "pair_gaps", "with_poles", "first_along"})

    def test_no_list_twice_and_none_of_the_arguments(self):
        for curve in all_curves()[::7]:
            for call, arguments in all_calls(curve):
                told = answered(call, arguments)
                if told[0].startswith("Invalid"):
                    continue
                apart = {name: copy.deepcopy(value) for name, value in arguments.items()}
                assert_no_list_twice(self, [list(apart.values()), call(**apart)])


if __name__ == "__main__":
    unittest.main()
