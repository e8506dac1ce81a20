import copy
import unittest
from itertools import combinations, permutations

from floorcurves.cuttings import cut_holes, cut_parts, cut_worth, cuttings, whole_by_ways
from floorcurves.errors import NoBound
from floorcurves.triangle import lower_edge, points, upper_edge
from floorcurves.ways import above, below, count_by_ways, ways
from strange import FAR_OFF, NOT_WHOLE, Unwritable

PAIRS = [(d, k) for d in (1, 2, 3) for k in range(7)] + [(4, 0), (4, 1), (4, 2)]

LOWER_2 = [(0, 2), (0, 1), (0, 0), (1, 0), (2, 0)]

# Worked out by hand: d, a way, its cuttings, and of each cutting its worth, its parts, its holes.
BY_HAND = [
    (1, [(0, 1), (0, 0), (1, 0)], [[((0, 1), (0, 0), (1, 0))]], [(1, 1, 0)]),
    (1, [(0, 1), (1, 0)], [], []),
    (2, [(0, 2), (0, 1), (0, 0), (1, 1), (1, 0), (2, 0)], [[
        ((0, 1), (0, 0), (1, 1)), ((0, 2), (0, 1), (1, 1)), ((1, 1), (1, 0), (2, 0)), ((0, 0), (1, 1), (1, 0)),
    ]], [(1, 1, 0)]),
    (2, LOWER_2, [
        [((0, 1), (0, 0), (1, 0)), ((0, 2), (0, 1), (1, 0), (1, 1)), ((1, 1), (1, 0), (2, 0))],
        [((0, 1), (0, 0), (1, 0), (1, 1)), ((0, 2), (0, 1), (1, 1)), ((1, 1), (1, 0), (2, 0))],
    ], [(1, 2, 0), (1, 2, 0)]),
    (2, [(0, 2), (0, 1), (1, 1), (1, 0), (2, 0)], [
        [((0, 2), (0, 1), (1, 1)), ((1, 1), (1, 0), (2, 0)), ((0, 1), (1, 1), (1, 0), (0, 0))],
    ], [(1, 2, 0)]),
    (2, [(0, 2), (0, 0), (1, 1), (1, 0), (2, 0)], [], []),
    (2, [(0, 2), (0, 1), (0, 0), (1, 1), (2, 0)], [], []),
    (2, [(0, 2), (2, 0)], [], []),
    (3, [(0, 3), (0, 2), (0, 1), (0, 0), (1, 2), (1, 0), (2, 1), (2, 0), (3, 0)], [[
        ((0, 1), (0, 0), (1, 2)), ((0, 2), (0, 1), (1, 2)), ((0, 3), (0, 2), (1, 2)), ((1, 2), (1, 0), (2, 1)),
        ((2, 1), (2, 0), (3, 0)), ((0, 0), (1, 2), (1, 0)), ((1, 0), (2, 1), (2, 0)),
    ]], [(4, 1, 0)]),
]

# The thread of (0, 1) and (1, 2) goes through two slants and joins the second piece with the last one.
THROUGH_TWO = [
    ((0, 1), (0, 0), (1, 1), (1, 2)), ((0, 2), (0, 1), (1, 2)), ((0, 3), (0, 2), (1, 2)), ((1, 2), (1, 1), (2, 1)),
    ((2, 1), (2, 0), (3, 0)), ((0, 0), (1, 1), (2, 1), (1, 0)), ((1, 0), (2, 1), (2, 0)),
]


def chosen_ways():
    for d in (1, 2, 3, 4):
        row = points(d)
        for left_out in range(min(len(row) - 2, 2 if d == 4 else 8) + 1):
            for between in combinations(row[1:-1], len(row) - 2 - left_out):
                yield d, [row[0]] + list(between) + [row[-1]]


def size(piece):
    (ax, ay), (bx, by), (cx, cy) = piece[:3]
    return ax * (by - cy) + bx * (cy - ay) + cx * (ay - by)


def slow_manners(d, way, sign):
    edge = upper_edge(d) if sign > 0 else lower_edge(d)
    waiting, found = [(way, [])], []
    while waiting:
        here, pieces = waiting.pop()
        turning = [place for place in range(1, len(here) - 1) if sign * size(here[place - 1:place + 2]) > 0]
        if here == edge:
            found.append(pieces)
        elif turning:
            place = turning[0]
            a, b, c = here[place - 1:place + 2]
            waiting.append((here[:place] + here[place + 1:], pieces + [(a, b, c)]))
            put = (a[0] + c[0] - b[0], a[1] + c[1] - b[1])
            if put in points(d):
                waiting.append((here[:place] + [put] + here[place + 1:], pieces + [(a, b, c, put)]))
    return found


def walked(way, pieces, sign):
    """How many of the pieces lead on from the way to this side, and the way that they lead to."""
    here, used = list(way), 0
    for piece in pieces:
        turning = [place for place in range(1, len(here) - 1) if sign * size(here[place - 1:place + 2]) > 0]
        if not turning or tuple(here[turning[0] - 1:turning[0] + 2]) != piece[:3]:
            break
        here[turning[0]:turning[0] + 1] = piece[3:]
        used += 1
    return used, here


def around(piece):
    return [frozenset({piece[place - 1], piece[place]}) for place in range(len(piece))]


def slow_ends(cutting, piece, side):
    """The corner piece at the other end of the thread that leaves a corner piece by a side, or None at an edge."""
    here = piece
    while True:
        across = [other for other in cutting if other is not here and side in around(other)]
        if not across:
            return None
        here = across[0]
        if len(here) == 3:
            return here
        sides = around(here)
        side = sides[sides.index(side) - 2]


def slow_parts_and_holes(cutting):
    corners = [piece for piece in cutting if len(piece) == 3]
    meets = {piece: [slow_ends(cutting, piece, side) for side in around(piece)] for piece in corners}
    ends = sum(other is not None for others in meets.values() for other in others)
    seen, parts = set(), 0
    for piece in corners:
        parts += piece not in seen
        waiting = [piece]
        while waiting:
            here = waiting.pop()
            if here is not None and here not in seen:
                seen.add(here)
                waiting.extend(meets[here])
    return parts, ends // 2 - len(corners) + parts


def in_other_orders(cutting):
    yield cutting[::-1]
    yield cutting[len(cutting) // 2:] + cutting[:len(cutting) // 2]
    yield cutting[::2] + cutting[1::2]
    yield sorted(cutting, key=lambda piece: (piece[2], piece[0]))


class Cuttings(unittest.TestCase):
    def test_by_hand(self):
        for d, way, told, of_each in BY_HAND:
            self.assertEqual(cuttings(d, way), told)
            self.assertEqual([(cut_worth(one), cut_parts(one), cut_holes(one)) for one in told], of_each)

    def test_all_manners_each_once_sorted(self):
        for d, way in chosen_ways():
            told = cuttings(d, way)
            every = [over + under for over in slow_manners(d, way, 1) for under in slow_manners(d, way, -1)]
            self.assertEqual(told, sorted(every), way)
            for place, cutting in enumerate(told[1:]):
                self.assertLess(told[place], cutting)

    def test_walked_step_by_step(self):
        for d, way in chosen_ways():
            for cutting in cuttings(d, way):
                used, last = walked(way, cutting, 1)
                self.assertEqual(last, upper_edge(d))
                further, last = walked(way, cutting[used:], -1)
                self.assertEqual(last, lower_edge(d))
                self.assertEqual(used + further, len(cutting))

    def test_kinds(self):
        for d, way in chosen_ways():
            told = cuttings(d, way)
            self.assertIs(type(told), list)
            for cutting in told:
                self.assertIs(type(cutting), list)
                for piece in cutting:
                    self.assertIs(type(piece), tuple)
                    self.assertIn(len(piece), (3, 4))
                    self.assertTrue(all(type(point) is tuple and point in points(d) for point in piece))

    def test_edge_that_is_not_reached(self):
        for d in range(1, 5):
            self.assertEqual(cuttings(d, [(0, d), (d, 0)]), [])
            self.assertEqual(cuttings(d, upper_edge(d)), [])
        self.assertEqual(cuttings(3, [(0, 3), (0, 0), (3, 0)]), [])

    def test_way_that_is_an_edge(self):
        self.assertEqual(len(cuttings(2, lower_edge(2))), 2)
        self.assertEqual(len(cuttings(3, lower_edge(3))), 6)

    def test_somewhat_more_points_left_out(self):
        for place, way in enumerate(combinations(points(4)[1:-1], 10)):
            way = [(0, 4)] + list(way) + [(4, 0)]
            if place % 7 == 0:
                self.assertEqual(sum(map(cut_worth, cuttings(4, way))), above(4, way) * below(4, way))

    def test_other_degrees_are_refused(self):
        handed = [None, 3, "way", [], [()], [None], [(0, 1)], upper_edge(5), lower_edge(5), {}, True, Unwritable()]
        for d in NOT_WHOLE + FAR_OFF + [-4, -1, 0, 5, 6]:
            for way in handed:
                with self.assertRaises(NoBound):
                    cuttings(d, way)


class Worths(unittest.TestCase):
    def test_without_corner_pieces(self):
        self.assertEqual(cut_worth([]), 1)
        self.assertEqual(cut_worth([((0, 0), (0, 2), (2, 2), (2, 0))]), 1)
        self.assertEqual(cut_worth([((0, 2), (0, 1), (1, 0), (1, 1)), ((0, 0), (2, 1), (3, 0), (1, -1))]), 1)

    def test_product_of_corners_without_signs(self):
        self.assertEqual(cut_worth([((0, 0), (0, 3), (1, 0))]), 3)
        self.assertEqual(cut_worth([((0, 3), (0, 0), (1, 0))]), 3)
        self.assertEqual(cut_worth([((0, 2), (0, 0), (2, 0)), ((0, 0), (0, 3), (1, 0)), ((0, 0), (1, 1), (2, 0))]), 24)

    def test_each_cutting(self):
        for d, way in chosen_ways():
            for cutting in cuttings(d, way):
                product, covered = 1, 0
                for piece in cutting:
                    product *= abs(size(piece)) if len(piece) == 3 else 1
                    covered += abs(size(piece)) * (len(piece) - 2)
                self.assertEqual(cut_worth(cutting), product)
                self.assertEqual(covered, d * d)
                for other in in_other_orders(cutting):
                    self.assertEqual(cut_worth(other), product)

    def test_sum_is_worth_above_times_worth_below(self):
        for d, way in chosen_ways():
            told = sum(cut_worth(cutting) for cutting in cuttings(d, way))
            self.assertEqual(told, above(d, way) * below(d, way), way)


class PartsAndHoles(unittest.TestCase):
    def test_thread_through_two_slants(self):
        way = [(0, 3), (0, 2), (0, 1), (0, 0), (1, 1), (2, 1), (2, 0), (3, 0)]
        self.assertIn(THROUGH_TWO, cuttings(3, way))
        for cutting in permutations(THROUGH_TWO):
            self.assertEqual((cut_parts(list(cutting)), cut_holes(list(cutting))), (2, 0))

    def test_each_cutting_in_each_order(self):
        seen = set()
        for d, way in chosen_ways():
            left_out = len(points(d)) - len(way)
            for cutting in cuttings(d, way):
                told = (cut_parts(cutting), cut_holes(cutting))
                self.assertEqual(told, slow_parts_and_holes(cutting), cutting)
                self.assertEqual(2 * (told[1] - told[0]), d * (d - 3) - 2 * left_out)
                for other in in_other_orders(cutting):
                    self.assertEqual((cut_parts(other), cut_holes(other)), told)
                seen.add(told)
        self.assertEqual(seen, {(1, 0), (1, 1), (1, 2), (1, 3), (2, 0), (3, 0)})

    def test_without_corner_pieces(self):
        slants = [((0, 2), (0, 1), (1, 0), (1, 1))]
        for cutting in ([], slants):
            self.assertEqual((cut_parts(cutting), cut_holes(cutting)), (0, 0))

    def test_degree_1(self):
        corner_piece = ((0, 1), (0, 0), (1, 0))
        self.assertEqual((cut_parts([corner_piece]), cut_holes([corner_piece])), (1, 0))

    def test_all_without_points_left_out_hang_together(self):
        for d in range(1, 5):
            told = cuttings(d, points(d))
            self.assertEqual([cut_parts(one) for one in told], [1])
            self.assertEqual([cut_holes(one) for one in told], [(d - 1) * (d - 2) // 2])


class Whole(unittest.TestCase):
    def test_known(self):
        known = {1: [1], 2: [1], 3: [1, 12], 4: [1, 27, 225]}
        for d, k in PAIRS:
            self.assertEqual(whole_by_ways(d, k), (known[d] + [0] * 7)[k], (d, k))

    def test_sum_of_those_of_one_part(self):
        for d, k in PAIRS:
            every = [cutting for way in ways(d, k) for cutting in cuttings(d, way)]
            self.assertEqual(sum(cut_worth(one) for one in every), count_by_ways(d, k))
            one_part = sum(cut_worth(one) for one in every if slow_parts_and_holes(one)[0] == 1)
            self.assertEqual(whole_by_ways(d, k), one_part)

    def test_pairs_beyond(self):
        for d in range(-2, 8):
            for k in range(-2, 10):
                if (d, k) not in PAIRS:
                    with self.assertRaises(NoBound):
                        whole_by_ways(d, k)

    def test_other_things(self):
        for thing in NOT_WHOLE + FAR_OFF:
            for d, k in ((thing, 0), (1, thing), (thing, thing), (thing, None), ("", thing), (0, thing)):
                with self.assertRaises(NoBound):
                    whole_by_ways(d, k)


class WhoseListsTheyAre(unittest.TestCase):
    def test_handed_in_stays(self):
        for d, way in chosen_ways():
            handed = list(way)
            told = cuttings(d, handed)
            self.assertEqual(handed, way)
            for cutting in told:
                kept = list(cutting)
                cut_worth(cutting), cut_parts(cutting), cut_holes(cutting)
                self.assertEqual(cutting, kept)

    def test_handed_in_may_be_changed_behind_the_call(self):
        way = list(LOWER_2)
        told = cuttings(2, way)
        kept = copy.deepcopy(told)
        way.clear()
        way.extend([(0, 2), (2, 0)])
        self.assertEqual(told, kept)
        self.assertEqual(cuttings(2, way), [])
        self.assertEqual(cuttings(2, LOWER_2), kept)

    def test_told_lists_are_the_askers_own(self):
        for d, way in chosen_ways():
            first = cuttings(d, way)
            kept = copy.deepcopy(first)
            for place, cutting in enumerate(first):
                cutting.clear()
                self.assertEqual(first[place + 1:], kept[place + 1:])
            self.assertEqual(cuttings(d, way), kept)
            first.clear()
            first.append("changed")
            self.assertEqual(cuttings(d, way), kept)


if __name__ == "__main__":
    unittest.main()
