import unittest

from floorcurves.turns import LEFT, RIGHT, first_turn, piece_worth, steps


class FirstTurn(unittest.TestCase):
    def test_by_hand(self):
        way = [(0, 2), (0, 1), (0, 0), (1, 1), (1, 0), (2, 0)]
        self.assertEqual(first_turn(way, LEFT), 2)
        self.assertEqual(first_turn(way, RIGHT), 3)

    def test_straight_on_is_no_turn(self):
        for side in (LEFT, RIGHT):
            self.assertIsNone(first_turn([(0, 2), (1, 1), (2, 0)], side))
            self.assertIsNone(first_turn([(0, 2), (2, 0)], side))

    def test_one_side_alone(self):
        self.assertEqual(first_turn([(0, 1), (0, 0), (1, 0)], LEFT), 1)
        self.assertIsNone(first_turn([(0, 1), (0, 0), (1, 0)], RIGHT))
        self.assertEqual(first_turn([(0, 2), (1, 1), (1, 0)], RIGHT), 1)
        self.assertIsNone(first_turn([(0, 2), (1, 1), (1, 0)], LEFT))


class Steps(unittest.TestCase):
    def test_both(self):
        way = [(0, 2), (0, 1), (1, 0), (2, 0)]
        self.assertEqual(steps(2, way, LEFT), [
            (((0, 2), (0, 1), (1, 0)), [(0, 2), (1, 0), (2, 0)]),
            (((0, 2), (0, 1), (1, 0), (1, 1)), [(0, 2), (1, 1), (1, 0), (2, 0)]),
        ])
        self.assertEqual(steps(2, way, RIGHT), [])
        self.assertEqual(way, [(0, 2), (0, 1), (1, 0), (2, 0)])

    def test_facing_point_outside(self):
        way = [(0, 2), (0, 0), (1, 1), (1, 0), (2, 0)]
        self.assertEqual(steps(2, way, LEFT), [(((0, 2), (0, 0), (1, 1)), [(0, 2), (1, 1), (1, 0), (2, 0)])])
        self.assertEqual(steps(2, way, RIGHT), [(((0, 0), (1, 1), (1, 0)), [(0, 2), (0, 0), (1, 0), (2, 0)])])

    def test_piece_worth(self):
        self.assertEqual(piece_worth(((0, 2), (0, 0), (1, 1))), 2)
        self.assertEqual(piece_worth(((0, 0), (1, 1), (2, 0))), 2)
        self.assertEqual(piece_worth(((0, 0), (1, 2), (3, 0), (2, -2))), 1)


if __name__ == "__main__":
    unittest.main()
