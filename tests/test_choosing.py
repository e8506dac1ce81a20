import unittest
from math import comb

from floorcurves.choosing import choose


class Choosing(unittest.TestCase):
    def test_each(self):
        for number in range(40):
            for chosen in range(45):
                self.assertEqual(choose(number, chosen), comb(number, chosen))

    def test_none_below_0(self):
        for number in range(-3, 5):
            self.assertEqual(choose(number, -1), 0)
        self.assertEqual((choose(-1, 0), choose(-2, 1), choose(0, 0)), (0, 0, 1))


if __name__ == "__main__":
    unittest.main()
