import unittest

from floorcurves.joining import gathered, how_many_sets


class Joining(unittest.TestCase):
    def test_nothing_joined(self):
        self.assertEqual(how_many_sets([], []), 0)
        self.assertEqual(how_many_sets([1, 2, 3], []), 3)
        self.assertEqual(gathered(["a", "b"], []), {"a": "a", "b": "b"})

    def test_by_hand(self):
        self.assertEqual(how_many_sets([1, 2, 3, 4], [(1, 2), (3, 4)]), 2)
        self.assertEqual(how_many_sets([1, 2, 3, 4], [(1, 2), (3, 4), (4, 1)]), 1)
        self.assertEqual(how_many_sets([1, 2, 3, 4], [(1, 2), (2, 1), (1, 1), (1, 2)]), 3)

    def test_one_stands_for_its_set(self):
        pairs = [(5, 4), (3, 2), (4, 3), (1, 6), (7, 7)]
        standing = gathered([1, 2, 3, 4, 5, 6, 7], pairs)
        self.assertEqual(len({standing[thing] for thing in (2, 3, 4, 5)}), 1)
        self.assertEqual(len({standing[thing] for thing in (1, 6)}), 1)
        self.assertEqual(len(set(standing.values())), 3)
        for thing in standing:
            self.assertEqual(standing[standing[thing]], standing[thing])

    def test_handed_in_stays(self):
        things, pairs = [1, 2, 3], [(1, 2)]
        how_many_sets(things, pairs)
        self.assertEqual((things, pairs), ([1, 2, 3], [(1, 2)]))


if __name__ == "__main__":
    unittest.main()
