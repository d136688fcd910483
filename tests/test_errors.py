"""Promise [5]: the errors and their field."""

import unittest

from curveheads import errors
from curveheads.curves import Curve

NAMES = (
    "InvalidPrime", "InvalidPolynomial", "InvalidNumber", "InvalidCurve", "InvalidFunction", "InvalidPlace",
    "InvalidBundle", "InvalidForm", "InvalidSeries", "InvalidHeads", "InvalidList", "Unlike", "TooMany",
)


class ErrorsTest(unittest.TestCase):
    def classes(self):
        return [getattr(errors, name) for name in NAMES]

    def test_curve_error_is_a_value_error(self):
        self.assertEqual(errors.CurveError.__bases__, (ValueError,))

    def test_the_others_stand_under_it_directly(self):
        for one in self.classes():
            self.assertEqual(one.__bases__, (errors.CurveError,), one)

    def test_curve_error_without_an_argument(self):
        self.assertIsInstance(errors.CurveError(), ValueError)

    def test_value_by_position_and_by_name(self):
        for one in self.classes():
            for value in [None, 0, False, "a", [1, [2]], (1, 2), {"a": 1}, Curve(3, [0, 1]), one(1)]:
                self.assertIs(one(value).value, value)
                self.assertIs(one(value=value).value, value)

    def test_value_left_out(self):
        for one in self.classes():
            self.assertIsNone(one().value)

    def test_one_argument_at_most(self):
        for one in self.classes():
            with self.assertRaises(TypeError):
                one(1, 2)

    def test_each_is_caught_by_its_name_and_by_those_above(self):
        for one in self.classes():
            for above in (one, errors.CurveError, ValueError):
                with self.assertRaises(above) as caught:
                    raise one([1])
                self.assertEqual(caught.exception.value, [1])

    def test_none_is_another(self):
        for one in self.classes():
            for other in self.classes():
                self.assertEqual(isinstance(one(1), other), one is other)


if __name__ == "__main__":
    unittest.main()
