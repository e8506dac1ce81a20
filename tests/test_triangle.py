import random
import unittest

from floorcurves.errors import NoBound
from floorcurves.triangle import corner, is_point, lower_edge, points, upper_edge
from strange import FAR_OFF, NOT_WHOLE

GREAT = 10 ** 60 - 1


class Points(unittest.TestCase):
    def test_by_hand(self):
        self.assertEqual(points(1), [(0, 1), (0, 0), (1, 0)])
        self.assertEqual(points(2), [(0, 2), (0, 1), (0, 0), (1, 1), (1, 0), (2, 0)])
        self.assertEqual(
            points(3),
            [(0, 3), (0, 2), (0, 1), (0, 0), (1, 2), (1, 1), (1, 0), (2, 1), (2, 0), (3, 0)],
        )

    def test_each_degree(self):
        for d in range(1, 6):
            told = points(d)
            every = [(x, y) for x in range(-1, d + 2) for y in range(-1, d + 2) if x >= 0 and y >= 0 and x + y <= d]
            self.assertEqual(told, sorted(every, key=lambda point: (point[0], -point[1])))
            self.assertEqual(len(told), (d + 1) * (d + 2) // 2)
            self.assertEqual((told[0], told[-1]), ((0, d), (d, 0)))
            self.assertTrue(all(type(point) is tuple for point in told))
            for x in range(-2, d + 3):
                for y in range(-2, d + 3):
                    self.assertIs(is_point(d, (x, y)), (x, y) in told)


class Corners(unittest.TestCase):
    def test_by_hand(self):
        for a, b, c, told in [
            ((0, 1), (0, 0), (1, 0), 1),
            ((1, 0), (0, 0), (0, 1), -1),
            ((0, 2), (0, 0), (1, 1), 2),
            ((0, 0), (1, 1), (2, 0), -2),
            ((0, 2), (1, 1), (2, 0), 0),
            ((0, 0), (2, 1), (3, 5), 7),
            ((3, 5), (2, 1), (0, 0), -7),
            ((-3, 4), (2, -6), (5, 1), 65),
            ((0, 0), (GREAT, 0), (GREAT, GREAT), GREAT * GREAT),
            ((0, 0), (0, -GREAT), (-GREAT, -GREAT), -GREAT * GREAT),
        ]:
            self.assertEqual(corner(a, b, c), told)

    def test_any_whole_numbers(self):
        source = random.Random(11)
        for turn in range(300):
            most = source.choice([3, 1000, GREAT])
            a, b, c = [(source.randint(-most, most), source.randint(-most, most)) for place in range(3)]
            # Twice the ground within the three points, by the points themselves and not by their differences.
            told = a[0] * (b[1] - c[1]) + b[0] * (c[1] - a[1]) + c[0] * (a[1] - b[1])
            self.assertEqual(corner(a, b, c), told)
            self.assertEqual(corner(c, b, a), -told)
            self.assertEqual(corner(b, c, a), told)

    def test_alike_points_and_one_line(self):
        a, b = (3, -7), (-GREAT, 5)
        for three in [(a, a, a), (a, a, b), (a, b, b), (a, b, a)]:
            self.assertEqual(corner(*three), 0)
        for step in [(1, 0), (0, 1), (2, -3), (-5, -5)]:
            line = [(4 + n * step[0], -1 + n * step[1]) for n in (-2, 0, 7)]
            self.assertEqual(corner(*line), 0)
            self.assertEqual(corner(line[2], line[0], line[1]), 0)


class Edges(unittest.TestCase):
    def test_by_hand(self):
        self.assertEqual(upper_edge(1), [(0, 1), (1, 0)])
        self.assertEqual(upper_edge(3), [(0, 3), (1, 2), (2, 1), (3, 0)])
        self.assertEqual(lower_edge(1), [(0, 1), (0, 0), (1, 0)])
        self.assertEqual(lower_edge(3), [(0, 3), (0, 2), (0, 1), (0, 0), (1, 0), (2, 0), (3, 0)])

    def test_each_degree(self):
        for d in range(1, 6):
            self.assertEqual(upper_edge(d), [point for point in points(d) if sum(point) == d])
            self.assertEqual(lower_edge(d), [point for point in points(d) if 0 in point and point[0] * point[1] == 0])
            self.assertEqual((len(upper_edge(d)), len(lower_edge(d))), (d + 1, 2 * d + 1))


class Refused(unittest.TestCase):
    def test_other_degrees(self):
        for told in (points, upper_edge, lower_edge):
            for d in NOT_WHOLE + FAR_OFF + [-5, -1, 0, 6, 7]:
                with self.assertRaises(NoBound):
                    told(d)


class WhoseListsTheyAre(unittest.TestCase):
    def test_told_lists_are_the_askers_own(self):
        for told in (points, upper_edge, lower_edge):
            for d in range(1, 6):
                first = told(d)
                kept = list(first)
                first.clear()
                self.assertEqual(told(d), kept)
                told(d).append((9, 9))
                self.assertEqual(told(d), kept)


if __name__ == "__main__":
    unittest.main()
