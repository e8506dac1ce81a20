import unittest

from floorcurves import errors
from floorcurves.errors import CurveError, NoBound, NoDrawing, NoEnds, NoNumber, NoText

REFUSALS = [NoNumber, NoBound, NoDrawing, NoEnds, NoText]


class Refusals(unittest.TestCase):
    def test_base_stands_straight_under_value_error(self):
        self.assertEqual(CurveError.__bases__, (ValueError,))

    def test_each_stands_straight_under_the_base(self):
        for refusal in REFUSALS:
            self.assertEqual(refusal.__bases__, (CurveError,), refusal)

    def test_none_stands_under_another_one(self):
        for one in REFUSALS:
            for other in REFUSALS:
                self.assertEqual(issubclass(one, other), one is other)

    def test_each_is_called_as_it_is_named(self):
        for refusal in REFUSALS + [CurveError]:
            self.assertIs(getattr(errors, refusal.__name__), refusal)

    def test_base_and_value_error_take_each(self):
        for refusal in REFUSALS:
            for taker in (CurveError, ValueError):
                with self.assertRaises(taker):
                    raise refusal("refused")


if __name__ == "__main__":
    unittest.main()
