import unittest
from math import comb

from floorcurves.errors import NoBound
from floorcurves.marks import whole_by_floors
from floorcurves.splitting import without_holes
from floorcurves.wholes import reckoned_whole
from strange import FAR_OFF, NOT_WHOLE


def slow_without_holes(d):
    """The sum of point 29, as it stands there."""
    if d == 1:
        return 1
    total = 0
    for e in range(1, d):
        f = d - e
        both = slow_without_holes(e) * slow_without_holes(f)
        total += both * e * e * f * (f * comb(3 * d - 4, 3 * e - 2) - e * comb(3 * d - 4, 3 * e - 1))
    return total


class WithoutHoles(unittest.TestCase):
    def test_known(self):
        known = [1, 1, 12, 620, 87304, 26312976, 14616808192, 13525751027392]
        self.assertEqual([without_holes(d) for d in range(1, 9)], known)

    def test_sum(self):
        for d in range(1, 9):
            self.assertEqual(without_holes(d), slow_without_holes(d))

    def test_is_the_whole_count(self):
        for d in range(1, 5):
            k = (d - 1) * (d - 2) // 2
            self.assertEqual(without_holes(d), whole_by_floors(d, k))
            self.assertEqual(without_holes(d), reckoned_whole(d, k))

    def test_refused(self):
        for d in NOT_WHOLE + FAR_OFF + [-8, -2, -1, 0, 9, 10, 11]:
            with self.assertRaises(NoBound) as taken:
                without_holes(d)
            self.assertIs(type(taken.exception), NoBound)


if __name__ == "__main__":
    unittest.main()
