import unittest

from floorcurves import bounds
from floorcurves.errors import CurveError, NoBound, NoDrawing, NoEnds, NoNumber, NoText
from strange import FAR_OFF, NOT_WHOLE

NARROW_PAIRS = [(d, k) for d in (1, 2, 3) for k in range(7)] + [(4, 0), (4, 1), (4, 2)]
WIDE_PAIRS = [(d, k) for d in (1, 2, 3, 4) for k in range(7)] + [(5, 0), (5, 1), (5, 2), (5, 3)]


class WholeNumbers(unittest.TestCase):
    def test_ints_are_whole(self):
        for number in FAR_OFF + [-1, 0, 1, 7]:
            self.assertIs(bounds.is_whole(number), True)

    def test_truths_and_others_are_not(self):
        for place, thing in enumerate(NOT_WHOLE):
            self.assertIs(bounds.is_whole(thing), False, place)


class Pairs(unittest.TestCase):
    def refused(self, need, *things):
        with self.assertRaises(NoBound) as taken:
            need(*things)
        for other in (NoNumber, NoDrawing, NoEnds, NoText):
            self.assertNotIsInstance(taken.exception, other)
        self.assertIsInstance(taken.exception, CurveError)
        str(taken.exception)

    def each_pair(self, need, allowed):
        for d in range(-3, 10):
            for k in range(-3, 12):
                if (d, k) in allowed:
                    self.assertIsNone(need(d, k))
                else:
                    self.refused(need, d, k)

    def test_narrow(self):
        self.each_pair(bounds.need_narrow, NARROW_PAIRS)

    def test_wide(self):
        self.each_pair(bounds.need_wide, WIDE_PAIRS)

    def test_other_things_in_either_place(self):
        for need in (bounds.need_narrow, bounds.need_wide):
            for thing in NOT_WHOLE + FAR_OFF:
                self.refused(need, thing, 0)
                self.refused(need, 1, thing)
                self.refused(need, thing, thing)
                for other in NOT_WHOLE:
                    self.refused(need, thing, other)


class Alone(unittest.TestCase):
    def test_degree(self):
        for d in range(-5, 12):
            if 1 <= d <= 5:
                self.assertIsNone(bounds.need_degree(d))
            else:
                with self.assertRaises(NoBound):
                    bounds.need_degree(d)

    def test_other_bounds(self):
        for number in range(-12, 12):
            if -2 <= number <= 8:
                self.assertIsNone(bounds.need_between(number, -2, 8))
            else:
                with self.assertRaises(NoBound):
                    bounds.need_between(number, -2, 8)

    def test_other_things(self):
        for thing in NOT_WHOLE + FAR_OFF:
            with self.assertRaises(NoBound):
                bounds.need_degree(thing)
            with self.assertRaises(NoBound):
                bounds.need_between(thing, 0, 8)


if __name__ == "__main__":
    unittest.main()
