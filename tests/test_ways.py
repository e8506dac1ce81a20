import copy
import unittest
from itertools import combinations
from math import comb

from floorcurves.errors import NoBound
from floorcurves.triangle import lower_edge, points, upper_edge
from floorcurves.ways import above, below, count_by_ways, ways
from strange import FAR_OFF, NOT_WHOLE, Unwritable

PAIRS = [(d, k) for d in (1, 2, 3) for k in range(7)] + [(4, 0), (4, 1), (4, 2)]

# Worked out by hand for degree 2: a way, its worth above, its worth below.
BY_HAND = [
    ([(0, 2), (1, 1), (2, 0)], 1, 0),
    ([(0, 2), (0, 1), (0, 0), (1, 0), (2, 0)], 2, 1),
    ([(0, 2), (0, 1), (0, 0), (1, 1), (1, 0), (2, 0)], 1, 1),
    ([(0, 2), (0, 0), (1, 1), (1, 0), (2, 0)], 2, 0),
    ([(0, 2), (0, 1), (1, 1), (1, 0), (2, 0)], 1, 1),
    ([(0, 2), (0, 1), (0, 0), (1, 1), (2, 0)], 1, 0),
    ([(0, 2), (0, 1), (1, 0), (2, 0)], 1, 0),
    ([(0, 2), (0, 0), (2, 0)], 0, 0),
    ([(0, 2), (1, 0), (2, 0)], 0, 0),
    ([(0, 2), (2, 0)], 0, 0),
    ([(0, 2), (1, 1), (1, 0), (2, 0)], 1, 0),
]


def all_ways(d):
    row = points(d)
    for size in range(len(row) - 1):
        for between in combinations(row[1:-1], size):
            yield [row[0]] + list(between) + [row[-1]]


def turn_at(way, place):
    (ax, ay), (bx, by), (cx, cy) = way[place - 1:place + 2]
    return ax * (by - cy) + bx * (cy - ay) + cx * (ay - by)


def slow_worth(d, way, sign):
    edge = upper_edge(d) if sign > 0 else lower_edge(d)
    waiting, total = [(way, 1)], 0
    while waiting:
        here, factor = waiting.pop()
        turning = [place for place in range(1, len(here) - 1) if sign * turn_at(here, place) > 0]
        if here == edge:
            total += factor
        elif turning:
            place = turning[0]
            a, b, c = here[place - 1:place + 2]
            waiting.append((here[:place] + here[place + 1:], factor * sign * turn_at(here, place)))
            put = (a[0] + c[0] - b[0], a[1] + c[1] - b[1])
            if put in points(d):
                waiting.append((here[:place] + [put] + here[place + 1:], factor))
    return total


class Ways(unittest.TestCase):
    def test_by_hand(self):
        self.assertEqual(ways(1, 0), [[(0, 1), (0, 0), (1, 0)]])
        self.assertEqual(ways(1, 1), [[(0, 1), (1, 0)]])
        self.assertEqual(ways(2, 0), [[(0, 2), (0, 1), (0, 0), (1, 1), (1, 0), (2, 0)]])
        self.assertEqual(ways(2, 1), [
            [(0, 2), (0, 0), (1, 1), (1, 0), (2, 0)],
            [(0, 2), (0, 1), (0, 0), (1, 0), (2, 0)],
            [(0, 2), (0, 1), (0, 0), (1, 1), (2, 0)],
            [(0, 2), (0, 1), (1, 1), (1, 0), (2, 0)],
        ])
        self.assertEqual(ways(2, 4), [[(0, 2), (2, 0)]])

    def test_each_pair(self):
        for d, k in PAIRS:
            told = ways(d, k)
            row = points(d)
            self.assertEqual(told, sorted(way for way in all_ways(d) if len(way) == len(row) - k))
            self.assertEqual(len(told), comb(len(row) - 2, k))
            for way in told:
                self.assertEqual(way, [point for point in row if point in way])
                self.assertEqual((way[0], way[-1], len(row) - len(way)), ((0, d), (d, 0), k))
                self.assertTrue(type(way) is list and all(type(point) is tuple for point in way))

    def test_fewer_points_between_than_crossings(self):
        for d, first in ((1, 2), (2, 5)):
            for k in range(first, 7):
                self.assertEqual(ways(d, k), [])
        self.assertEqual(len(ways(3, 6)), 28)


class Worths(unittest.TestCase):
    def test_edges(self):
        for d in range(1, 5):
            self.assertEqual(above(d, upper_edge(d)), 1)
            self.assertEqual(below(d, lower_edge(d)), 1)

    def test_by_hand(self):
        self.assertEqual((above(1, lower_edge(1)), below(1, upper_edge(1))), (1, 0))
        for way, over, under in BY_HAND:
            self.assertEqual((above(2, way), below(2, way)), (over, under), way)

    def test_no_turn_to_the_side(self):
        for d in range(1, 5):
            straight = [(0, d), (d, 0)]
            self.assertEqual(above(d, straight), 1 if d == 1 else 0)
            self.assertEqual(below(d, straight), 0)
            self.assertEqual(below(d, upper_edge(d)), 0)
            bent = [(0, d), (0, 0), (d, 0)]
            self.assertEqual(below(d, bent), 1 if d == 1 else 0)
        self.assertEqual(above(3, [(0, 3), (1, 2), (3, 0)]), 0)
        self.assertEqual(below(3, [(0, 3), (0, 1), (0, 0), (1, 0), (2, 0), (3, 0)]), 0)

    def test_every_way_up_to_degree_3(self):
        for d in (1, 2, 3):
            for way in all_ways(d):
                self.assertEqual(above(d, way), slow_worth(d, way, 1), way)
                self.assertEqual(below(d, way), slow_worth(d, way, -1), way)

    def test_degree_4(self):
        for place, way in enumerate(all_ways(4)):
            if place % 13 == 0 or len(way) >= 13:
                self.assertEqual(above(4, way), slow_worth(4, way, 1), way)
                self.assertEqual(below(4, way), slow_worth(4, way, -1), way)

    def test_other_degrees_are_refused(self):
        handed = [None, 3, "way", [], [()], [None], [(0, 1)], upper_edge(5), lower_edge(5), {}, True, Unwritable()]
        for worth in (above, below):
            for d in NOT_WHOLE + FAR_OFF + [-4, -1, 0, 5, 6]:
                for way in handed:
                    with self.assertRaises(NoBound):
                        worth(d, way)


class Count(unittest.TestCase):
    def test_known(self):
        known = {1: [1], 2: [1, 3], 3: [1, 12, 21, 15], 4: [1, 27, 225]}
        for d, k in PAIRS:
            self.assertEqual(count_by_ways(d, k), (known[d] + [0] * 6)[k], (d, k))

    def test_few_crossings(self):
        for d in range(1, 5):
            self.assertEqual(count_by_ways(d, 0), 1)
            self.assertEqual(count_by_ways(d, 1), 3 * (d - 1) ** 2)

    def test_sum_of_worths(self):
        for d, k in PAIRS:
            self.assertEqual(count_by_ways(d, k), sum(above(d, way) * below(d, way) for way in ways(d, k)))


class Refused(unittest.TestCase):
    def test_pairs_beyond(self):
        for told in (ways, count_by_ways):
            for d in range(-2, 8):
                for k in range(-2, 10):
                    if (d, k) not in PAIRS:
                        with self.assertRaises(NoBound):
                            told(d, k)

    def test_other_things(self):
        for told in (ways, count_by_ways):
            for thing in NOT_WHOLE + FAR_OFF:
                for d, k in ((thing, 0), (1, thing), (thing, thing), (thing, None), ("", thing), (0, thing)):
                    with self.assertRaises(NoBound):
                        told(d, k)


class WhoseListsTheyAre(unittest.TestCase):
    def test_handed_in_stays(self):
        for way, over, under in BY_HAND:
            handed = copy.deepcopy(way)
            above(2, handed)
            below(2, handed)
            self.assertEqual(handed, way)

    def test_handed_in_may_be_changed_behind_the_call(self):
        way = lower_edge(2)
        self.assertEqual((above(2, way), below(2, way)), (2, 1))
        way.clear()
        way.extend([(0, 2), (0, 0), (2, 0)])
        self.assertEqual((above(2, way), below(2, way)), (0, 0))
        self.assertEqual((above(2, lower_edge(2)), below(2, lower_edge(2))), (2, 1))

    def test_told_lists_are_the_askers_own(self):
        for d, k in PAIRS:
            first = ways(d, k)
            kept = copy.deepcopy(first)
            count = count_by_ways(d, k)
            for place, way in enumerate(first):
                way.clear()
                self.assertEqual(first[place + 1:], kept[place + 1:])
            self.assertEqual(ways(d, k), kept)
            first.clear()
            self.assertEqual(ways(d, k), kept)
            self.assertEqual(count_by_ways(d, k), count)


if __name__ == "__main__":
    unittest.main()
