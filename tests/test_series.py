import unittest

from floorcurves.series import product_by_place, sum_by_place, with_more, without_last_noughts


class Series(unittest.TestCase):
    def test_with_more(self):
        self.assertEqual(with_more((1, 2, 3), 0, 4), (5, 2, 3))
        self.assertEqual(with_more((1, 2, 3), 2, -3), (1, 2, 0))
        self.assertEqual(with_more((7,), 0, 0), (7,))

    def test_place_by_place(self):
        self.assertEqual(sum_by_place([1, 2], [3]), [4, 2])
        self.assertEqual(without_last_noughts(product_by_place([1, 1], [1, -1])), [1, 0, -1])
        self.assertEqual(without_last_noughts([0, 0]), [])


if __name__ == "__main__":
    unittest.main()
