import unittest
from math import gcd

from floorcurves.degrees import holds_from, polynomial_of
from floorcurves.errors import NoBound
from floorcurves.polys import value
from floorcurves.templates import count_by_templates
from strange import FAR_OFF, NOT_WHOLE
from test_templates import SlowCount

KNOWN = [
    (([1], 1), 1),
    (([3, -6, 3], 1), 1),
    (([-66, 81, 12, -36, 9], 2), 1),
    (([1050, -829, -458, 423, 9, -54, 9], 2), 3),
]


class Degrees(unittest.TestCase):
    def test_known(self):
        for k, (polynomial, degree) in enumerate(KNOWN):
            self.assertEqual(polynomial_of(k), polynomial)
            self.assertEqual(holds_from(k), degree)

    def test_lowest_terms(self):
        for k in range(4):
            tops, bottom = polynomial_of(k)
            self.assertTrue(type(tops) is list and type(polynomial_of(k)) is tuple)
            self.assertLessEqual(len(tops), 2 * k + 1)
            self.assertTrue(tops[-1] != 0 and bottom >= 1)
            self.assertEqual(gcd(bottom, *tops), 1)

    def test_holds_from_the_told_degree(self):
        for k in range(4):
            for d in range(holds_from(k), 13):
                self.assertEqual(value(polynomial_of(k), d), (count_by_templates(d, k), 1), (d, k))

    def test_holds_beyond(self):
        slow = SlowCount()
        for k, greatest in ((0, 100), (1, 40), (2, 30), (3, 22)):
            for d in range(13, greatest + 1):
                self.assertEqual(value(polynomial_of(k), d), (slow.count(d, k), 1), (d, k))

    def test_not_ahead_of_the_told_degree(self):
        ahead = [(k, holds_from(k) - 1) for k in range(4) if holds_from(k) > 1]
        self.assertEqual(ahead, [(3, 2)])
        for k, d in ahead:
            self.assertNotEqual(value(polynomial_of(k), d), (count_by_templates(d, k), 1))

    def test_refused(self):
        for told in (polynomial_of, holds_from):
            for k in NOT_WHOLE + FAR_OFF + [-3, -2, -1, 4, 5, 6]:
                with self.assertRaises(NoBound) as taken:
                    told(k)
                self.assertIs(type(taken.exception), NoBound)

    def test_told_lists_are_the_askers_own(self):
        for k in range(4):
            tops, bottom = polynomial_of(k)
            tops.clear()
            tops.append("changed")
            self.assertEqual((polynomial_of(k), holds_from(k)), KNOWN[k])


if __name__ == "__main__":
    unittest.main()
