import copy
import random
import unittest
from itertools import combinations_with_replacement

from floorcurves.errors import NoBound
from floorcurves.floors import drawings, ends_at, holes, parts, sound, worth
from strange import FAR_OFF, NOT_WHOLE, Unwritable

WIDE_PAIRS = [(d, k) for d in (1, 2, 3, 4) for k in range(7)] + [(5, 0), (5, 1), (5, 2), (5, 3)]
OTHER_DEGREES = NOT_WHOLE + FAR_OFF + [-5, -1, 0, 6, 7]

# Worked out by hand: d, a drawing, its ends, its parts, its holes, its worth.
BY_HAND = [
    (1, [], [1], 1, 0, 1),
    (2, [], [1, 1], 2, 0, 1),
    (2, [(1, 2, 1)], [0, 2], 1, 0, 1),
    (2, [(1, 2, 2)], [-1, 3], 1, 0, 4),
    (3, [(1, 2, 1), (2, 3, 1)], [0, 1, 2], 1, 0, 1),
    (3, [(1, 2, 1), (2, 3, 2)], [0, 0, 3], 1, 0, 4),
    (3, [(1, 2, 1), (2, 3, 1), (2, 3, 1)], [0, 0, 3], 1, 1, 1),
    (3, [(1, 3, 1)], [0, 1, 2], 2, 0, 1),
    (3, [(2, 3, 2)], [1, -1, 3], 2, 0, 4),
    (4, [(1, 4, 1), (2, 3, 1)], [0, 0, 2, 2], 2, 0, 1),
    (4, [(1, 2, 1), (2, 3, 2), (3, 4, 3)], [0, 0, 0, 4], 1, 0, 36),
    (5, [(1, 5, 60), (1, 5, 60)], [-119, 1, 1, 1, 121], 4, 1, 12960000),
    (5, [(2, 4, 1), (2, 4, 1), (4, 5, 3)], [1, -1, 1, 0, 4], 3, 1, 9),
]


def known_lists(d):
    """The sound drawings of each k, of degrees 1 to 3, by hand."""
    return {
        1: [[[]]],
        2: [[[(1, 2, 1)]], [[]]],
        3: [
            [[(1, 2, 1), (2, 3, 1), (2, 3, 1)]],
            [[(1, 2, 1), (2, 3, 1)], [(1, 2, 1), (2, 3, 2)], [(1, 3, 1), (2, 3, 1)]],
            [[(1, 2, 1)], [(1, 3, 1)], [(2, 3, 1)]],
            [[]],
        ],
    }[d]


def slow_ends(d, drawing):
    return [
        1 + sum(w for i, j, w in drawing if j == floor) - sum(w for i, j, w in drawing if i == floor)
        for floor in range(1, d + 1)
    ]


def slow_drawings(d, k):
    size = d * (d - 1) // 2 - k
    if size < 0:
        return []
    lifts = [(i, j, w) for i in range(1, d) for j in range(i + 1, d + 1) for w in range(1, d)]
    every = combinations_with_replacement(lifts, size)
    return sorted(list(drawing) for drawing in every if min(slow_ends(d, drawing)) >= 0)


def loads(d, drawing):
    return [sum(w for i, j, w in drawing if i <= gap < j) for gap in range(1, d)]


def drawings_by_loads(d, k):
    """Lift by lift, as long as between a floor and the next one there is no more than can be there."""
    lifts = sorted((i, j, w) for i in range(1, d) for j in range(i + 1, d + 1) for w in range(1, d))
    waiting, found = [([], 0)], []
    while waiting:
        drawing, place = waiting.pop()
        if len(drawing) == d * (d - 1) // 2 - k:
            found.extend([drawing] if min(slow_ends(d, drawing)) >= 0 else [])
            continue
        for further in range(place, len(lifts)):
            longer = drawing + [lifts[further]]
            if all(load <= gap for gap, load in enumerate(loads(d, longer), start=1)):
                waiting.append((longer, further))
    return sorted(found)


def slow_parts(d, drawing):
    floors, found = set(range(1, d + 1)), 0
    while floors:
        found += 1
        reached = {min(floors)}
        for again in range(d):
            for i, j, w in drawing:
                if i in reached or j in reached:
                    reached |= {i, j}
        floors -= reached
    return found


def random_drawings():
    chance = random.Random(18)
    for d in range(2, 6):
        for lifts in range(21):
            for greatest in (1, 2, 60):
                drawing = []
                while len(drawing) < lifts:
                    i, j = sorted(chance.sample(range(1, d + 1), 2))
                    again = chance.choice((1, 1, 2))
                    drawing.extend([(i, j, chance.randint(1, greatest))] * min(again, lifts - len(drawing)))
                yield d, sorted(drawing)


class Ends(unittest.TestCase):
    def test_by_hand(self):
        for d, drawing, ends, *others in BY_HAND:
            self.assertEqual(ends_at(d, drawing), ends)
            self.assertIs(sound(d, drawing), min(ends) >= 0)

    def test_no_lifts(self):
        for d in range(1, 6):
            self.assertEqual(ends_at(d, []), [1] * d)
            self.assertIs(sound(d, []), True)

    def test_many(self):
        told = set()
        for d, drawing in random_drawings():
            ends = ends_at(d, drawing)
            self.assertEqual(ends, slow_ends(d, drawing))
            self.assertEqual((sum(ends), len(ends), type(ends)), (d, d, list))
            self.assertIs(sound(d, drawing), all(end >= 0 for end in ends))
            told.add(sound(d, drawing))
        self.assertEqual(told, {True, False})

    def test_none_left_is_sound_still(self):
        self.assertIs(sound(5, [(1, 2, 1), (2, 3, 2), (3, 4, 3), (4, 5, 4)]), True)
        self.assertIs(sound(5, [(1, 2, 1), (2, 3, 2), (3, 4, 3), (4, 5, 5)]), False)
        self.assertIs(sound(5, [(1, 3, 1), (2, 3, 2), (3, 4, 3), (4, 5, 4)]), False)


class OfADrawing(unittest.TestCase):
    def test_by_hand(self):
        for d, drawing, ends, in_parts, with_holes, worth_of in BY_HAND:
            self.assertEqual((parts(d, drawing), holes(d, drawing), worth(drawing)), (in_parts, with_holes, worth_of))

    def test_no_lifts(self):
        for d in range(1, 6):
            self.assertEqual((parts(d, []), holes(d, []), worth([])), (d, 0, 1))

    def test_many(self):
        for d, drawing in random_drawings():
            product = 1
            for lift in drawing:
                product *= lift[2] * lift[2]
            self.assertEqual(parts(d, drawing), slow_parts(d, drawing))
            self.assertEqual(holes(d, drawing), len(drawing) - d + slow_parts(d, drawing))
            self.assertEqual(worth(drawing), product)


class Drawings(unittest.TestCase):
    def test_by_hand(self):
        for d in (1, 2, 3):
            for k in range(7):
                self.assertEqual(drawings(d, k), (known_lists(d) + [[]] * 7)[k], (d, k))

    def test_search_written_apart(self):
        for d in (1, 2, 3, 4):
            for k in range(7):
                self.assertEqual(drawings(d, k), slow_drawings(d, k), (d, k))

    def test_another_search(self):
        for d, k in WIDE_PAIRS:
            self.assertEqual(drawings(d, k), drawings_by_loads(d, k), (d, k))

    def test_each_pair(self):
        for d, k in WIDE_PAIRS:
            told = drawings(d, k)
            self.assertIs(type(told), list)
            for place, drawing in enumerate(told):
                self.assertIs(type(drawing), list)
                self.assertEqual(drawing, sorted(drawing))
                self.assertEqual(len(drawing), d * (d - 1) // 2 - k)
                self.assertIs(sound(d, drawing), True)
                self.assertEqual(2 * (holes(d, drawing) - parts(d, drawing)), d * (d - 3) - 2 * k)
                for i, j, w in drawing:
                    self.assertTrue(1 <= i < j <= d and w >= 1)
                self.assertTrue(all(type(lift) is tuple for lift in drawing))
                if place:
                    self.assertLess(told[place - 1], drawing)

    def test_number_of_lifts_below_0(self):
        for d, first in ((1, 1), (2, 2), (3, 4)):
            self.assertEqual(len(drawings(d, first - 1)), 1)
            for k in range(first, 7):
                self.assertEqual(drawings(d, k), [])

    def test_fewest_and_most_lifts(self):
        for d in (1, 2, 3, 4):
            self.assertEqual(drawings(d, d * (d - 1) // 2), [[]])
        for d in range(1, 6):
            self.assertEqual(drawings(d, 0), [sorted((i, i + 1, 1) for i in range(1, d) for again in range(i))])


class Refused(unittest.TestCase):
    def test_degree(self):
        handed = [[], [(1, 2, 1)], None, 3, "1-2", [()], [None], {}, True, Unwritable(), [(5, 6, 1)]]
        for told in (ends_at, sound, parts, holes):
            for d in OTHER_DEGREES:
                for drawing in handed:
                    with self.assertRaises(NoBound):
                        told(d, drawing)

    def test_pairs_beyond(self):
        for d in range(-2, 8):
            for k in range(-2, 10):
                if (d, k) not in WIDE_PAIRS:
                    with self.assertRaises(NoBound):
                        drawings(d, k)

    def test_other_things(self):
        for thing in NOT_WHOLE + FAR_OFF:
            for d, k in ((thing, 0), (1, thing), (5, thing), (thing, thing), (thing, None), ("", thing), (0, thing)):
                with self.assertRaises(NoBound):
                    drawings(d, k)


class WhoseListsTheyAre(unittest.TestCase):
    def test_handed_in_stays(self):
        for d, drawing in random_drawings():
            handed = copy.deepcopy(drawing)
            ends_at(d, handed), sound(d, handed), parts(d, handed), holes(d, handed), worth(handed)
            self.assertEqual(handed, drawing)

    def test_handed_in_may_be_changed_behind_the_call(self):
        drawing = [(1, 2, 1), (2, 3, 2)]
        ends = ends_at(3, drawing)
        drawing.clear()
        self.assertEqual(ends, [0, 0, 3])
        self.assertEqual((ends_at(3, drawing), parts(3, drawing), worth(drawing)), ([1, 1, 1], 3, 1))
        self.assertEqual(ends_at(3, [(1, 2, 1), (2, 3, 2)]), ends)

    def test_told_ends_are_the_askers_own(self):
        for d, drawing, ends, *others in BY_HAND:
            first = ends_at(d, drawing)
            first[0] += 7
            first.append(1)
            self.assertEqual(ends_at(d, drawing), ends)

    def test_told_drawings_are_the_askers_own(self):
        for d, k in WIDE_PAIRS:
            first = drawings(d, k)
            kept = copy.deepcopy(first)
            for place, drawing in enumerate(first):
                drawing.clear()
                self.assertEqual(first[place + 1:], kept[place + 1:])
                drawing.append("changed")
            self.assertEqual(drawings(d, k), kept)
            first.clear()
            self.assertEqual(drawings(d, k), kept)


if __name__ == "__main__":
    unittest.main()
