import copy
import unittest
from itertools import permutations
from math import factorial

from floorcurves.cuttings import whole_by_ways
from floorcurves.errors import NoBound, NoDrawing
from floorcurves.floors import drawings, ends_at, parts, sound, worth
from floorcurves.marks import count_by_floors, how_many, markings, whole_by_floors
from floorcurves.ways import count_by_ways
from strange import FAR_OFF, NOT_WHOLE, Unwritable

NARROW_PAIRS = [(d, k) for d in (1, 2, 3) for k in range(7)] + [(4, 0), (4, 1), (4, 2)]
WIDE_PAIRS = [(d, k) for d in (1, 2, 3, 4) for k in range(7)] + [(5, 0), (5, 1), (5, 2), (5, 3)]

# Worked out by hand: d, a drawing, its markings.
BY_HAND = [
    (1, [], [[(1, 1, 0), (1, 2, 1)]]),
    (2, [], [
        [(1, 1, 0), (1, 3, 1), (2, 2, 0), (2, 3, 1)],
        [(1, 1, 0), (2, 2, 0), (1, 3, 1), (2, 3, 1)],
        [(1, 1, 0), (2, 2, 0), (2, 3, 1), (1, 3, 1)],
    ]),
    (2, [(1, 2, 1)], [[(1, 1, 0), (1, 2, 1), (2, 2, 0), (2, 3, 1), (2, 3, 1)]]),
    (3, [(1, 2, 1), (2, 3, 2)], [
        [(1, 1, 0), (1, 2, 1), (2, 2, 0), (2, 3, 2), (3, 3, 0), (3, 4, 1), (3, 4, 1), (3, 4, 1)],
    ]),
    (3, [(1, 2, 1), (2, 3, 1), (2, 3, 1)], [
        [(1, 1, 0), (1, 2, 1), (2, 2, 0), (2, 3, 1), (2, 3, 1), (3, 3, 0), (3, 4, 1), (3, 4, 1), (3, 4, 1)],
    ]),
    (3, [(1, 2, 1), (2, 3, 1)], [
        [(1, 1, 0), (1, 2, 1), (2, 2, 0), (2, 3, 1), (2, 4, 1), (3, 3, 0), (3, 4, 1), (3, 4, 1)],
        [(1, 1, 0), (1, 2, 1), (2, 2, 0), (2, 3, 1), (3, 3, 0), (2, 4, 1), (3, 4, 1), (3, 4, 1)],
        [(1, 1, 0), (1, 2, 1), (2, 2, 0), (2, 3, 1), (3, 3, 0), (3, 4, 1), (2, 4, 1), (3, 4, 1)],
        [(1, 1, 0), (1, 2, 1), (2, 2, 0), (2, 3, 1), (3, 3, 0), (3, 4, 1), (3, 4, 1), (2, 4, 1)],
        [(1, 1, 0), (1, 2, 1), (2, 2, 0), (2, 4, 1), (2, 3, 1), (3, 3, 0), (3, 4, 1), (3, 4, 1)],
    ]),
    (3, [(1, 3, 1), (2, 3, 1)], [
        [(1, 1, 0), (1, 3, 1), (2, 2, 0), (2, 3, 1), (3, 3, 0), (3, 4, 1), (3, 4, 1), (3, 4, 1)],
        [(1, 1, 0), (2, 2, 0), (1, 3, 1), (2, 3, 1), (3, 3, 0), (3, 4, 1), (3, 4, 1), (3, 4, 1)],
        [(1, 1, 0), (2, 2, 0), (2, 3, 1), (1, 3, 1), (3, 3, 0), (3, 4, 1), (3, 4, 1), (3, 4, 1)],
    ]),
]

# Sound drawings of more crossings than are asked of degree 5, so with many markings.
FEW_LIFTS = [
    [], [(1, 5, 1)], [(1, 2, 1)], [(4, 5, 1)], [(1, 3, 1), (2, 3, 1)], [(1, 3, 1), (3, 4, 2), (4, 5, 3)],
    [(1, 3, 1), (2, 3, 1), (3, 5, 1), (3, 5, 1)], [(1, 4, 1), (2, 4, 1), (3, 4, 1)],
    [(1, 2, 1), (2, 5, 1), (2, 5, 1)], [(1, 2, 1), (2, 4, 2), (4, 5, 3)],
]

NOT_SOUND = [
    (1, [], False), (2, [(1, 2, 1)], False), (2, [(1, 2, 2)], True), (3, [(2, 3, 2)], True), (3, [(1, 2, 1), (1, 3, 1)], True),
    (5, [(4, 5, 60)] * 20, True), (5, [(1, 2, 1), (2, 3, 2), (3, 4, 3), (4, 5, 5)], True), (4, [(1, 4, 60)], True),
]


def marks_of(d, drawing):
    floors = [(floor, floor, 0) for floor in range(1, d + 1)]
    ends = [(floor, d + 1, 1) for floor, number in enumerate(ends_at(d, drawing), start=1) for again in range(number)]
    return floors + drawing + ends


def is_marking(d, drawing, marking):
    if sorted(marking) != sorted(marks_of(d, drawing)):
        return False
    at = {mark[0]: place for place, mark in enumerate(marking) if mark[0] == mark[1]}
    at[d + 1] = len(marking)
    rising = all(at[floor] < at[floor + 1] for floor in range(1, d + 1))
    return rising and all(at[i] < place < at[j] for place, (i, j, w) in enumerate(marking) if i != j)


def slow_number(d, drawing):
    """All orders of the marks as if alike ones were told apart, by the sets that can stand ahead, then divided."""
    marks = marks_of(d, drawing)
    need = []
    for i, j, w in marks:
        if i != j:
            need.append([place for place, mark in enumerate(marks) if mark == (i, i, 0)])
        else:
            need.append([place for place, mark in enumerate(marks) if mark[1] == i != mark[0] or mark == (i - 1, i - 1, 0)])
    known = {frozenset(): 1}
    for step in marks:
        longer = {}
        for ahead, number in known.items():
            for place in range(len(marks)):
                if place not in ahead and all(other in ahead for other in need[place]):
                    key = ahead | {place}
                    longer[key] = longer.get(key, 0) + number
        known = longer
    (number,) = known.values()
    for mark in set(marks):
        number //= factorial(marks.count(mark))
    return number


class Markings(unittest.TestCase):
    def test_by_hand(self):
        for d, drawing, told in BY_HAND:
            self.assertEqual(markings(d, drawing), told)
            self.assertEqual(how_many(d, drawing), len(told))

    def test_every_order_of_few_marks(self):
        for d in (1, 2):
            for k in range(d):
                for drawing in drawings(d, k):
                    every = {order for order in permutations(marks_of(d, drawing)) if is_marking(d, drawing, list(order))}
                    self.assertEqual(markings(d, drawing), sorted(map(list, every)))
        drawing = [(1, 3, 1), (2, 3, 1)]
        every = {order for order in permutations(marks_of(3, drawing)) if is_marking(3, drawing, list(order))}
        self.assertEqual(markings(3, drawing), sorted(map(list, every)))

    def test_each_drawing_within_the_bounds(self):
        for d, k in WIDE_PAIRS:
            for drawing in drawings(d, k):
                told = markings(d, drawing)
                self.assertEqual(len(told), slow_number(d, drawing))
                self.assertEqual(how_many(d, drawing), len(told))
                self.assertIs(type(told), list)
                for place, marking in enumerate(told):
                    self.assertTrue(is_marking(d, drawing, marking))
                    self.assertTrue(type(marking) is list and all(type(mark) is tuple for mark in marking))
                    if place:
                        self.assertLess(told[place - 1], marking)

    def test_many_markings(self):
        for drawing in FEW_LIFTS:
            self.assertTrue(sound(5, drawing))
            told = slow_number(5, drawing)
            self.assertEqual(how_many(5, drawing), told, drawing)
            if told <= 2000:
                self.assertEqual(len(markings(5, drawing)), told)

    def test_without_lifts(self):
        product = 1
        for d in range(1, 6):
            product *= 2 * d - 1
            self.assertEqual(how_many(d, []), product)
            self.assertEqual(len(markings(d, [])), product)
        self.assertEqual(product, 945)

    def test_not_sound(self):
        for d, drawing, refused in NOT_SOUND:
            for told in (markings, how_many):
                if refused:
                    with self.assertRaises(NoDrawing):
                        told(d, drawing)
                else:
                    told(d, drawing)

    def test_bound_is_ahead_of_drawing(self):
        handed = [[], [(1, 2, 2)], [(1, 2, 1)], None, 3, "1-2", [()], [None], {}, True, Unwritable(), [(4, 5, 60)]]
        for told in (markings, how_many):
            for d in NOT_WHOLE + FAR_OFF + [-5, -1, 0, 6, 7]:
                for drawing in handed:
                    with self.assertRaises(NoBound):
                        told(d, drawing)


class Counts(unittest.TestCase):
    def test_known(self):
        counts = {
            1: [1], 2: [1, 3], 3: [1, 12, 21, 15], 4: [1, 27, 225, 675, 666, 378, 105], 5: [1, 48, 882, 7915],
        }
        wholes = {1: [1], 2: [1], 3: [1, 12], 4: [1, 27, 225, 620], 5: [1, 48, 882, 7915]}
        for d, k in WIDE_PAIRS:
            self.assertEqual(count_by_floors(d, k), (counts[d] + [0] * 7)[k], (d, k))
            self.assertEqual(whole_by_floors(d, k), (wholes[d] + [0] * 7)[k], (d, k))

    def test_sums(self):
        for d, k in WIDE_PAIRS:
            every = [(parts(d, one), worth(one) * slow_number(d, one)) for one in drawings(d, k)]
            self.assertEqual(count_by_floors(d, k), sum(number for in_parts, number in every))
            self.assertEqual(whole_by_floors(d, k), sum(number for in_parts, number in every if in_parts == 1))

    def test_agree_with_ways(self):
        for d, k in NARROW_PAIRS:
            self.assertEqual(count_by_floors(d, k), count_by_ways(d, k))
            self.assertEqual(whole_by_floors(d, k), whole_by_ways(d, k))

    def test_pairs_beyond(self):
        for told in (count_by_floors, whole_by_floors):
            for d in range(-2, 8):
                for k in range(-2, 10):
                    if (d, k) not in WIDE_PAIRS:
                        with self.assertRaises(NoBound):
                            told(d, k)

    def test_other_things(self):
        for told in (count_by_floors, whole_by_floors):
            for thing in NOT_WHOLE + FAR_OFF:
                for d, k in ((thing, 0), (1, thing), (5, thing), (thing, thing), (thing, None), ("", thing), (0, thing)):
                    with self.assertRaises(NoBound):
                        told(d, k)


class WhoseListsTheyAre(unittest.TestCase):
    def test_handed_in_stays(self):
        for d, k in WIDE_PAIRS:
            for drawing in drawings(d, k):
                handed = list(drawing)
                markings(d, handed), how_many(d, handed)
                self.assertEqual(handed, drawing)

    def test_handed_in_may_be_changed_behind_the_call(self):
        drawing = [(1, 2, 1)]
        told = markings(2, drawing)
        drawing.clear()
        self.assertEqual(told, [[(1, 1, 0), (1, 2, 1), (2, 2, 0), (2, 3, 1), (2, 3, 1)]])
        self.assertEqual((len(markings(2, drawing)), how_many(2, drawing)), (3, 3))

    def test_told_lists_are_the_askers_own(self):
        for d, k in WIDE_PAIRS:
            for drawing in drawings(d, k):
                first = markings(d, drawing)
                kept = copy.deepcopy(first)
                for place, marking in enumerate(first):
                    marking.clear()
                    self.assertEqual(first[place + 1:][:3], kept[place + 1:][:3])
                self.assertEqual(markings(d, drawing), kept)
                first.clear()
                first.append("changed")
                self.assertEqual(markings(d, drawing), kept)
                self.assertEqual(how_many(d, drawing), len(kept))


if __name__ == "__main__":
    unittest.main()
