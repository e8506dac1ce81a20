import unittest
from itertools import product
from math import comb

from floorcurves.ended import by_ended
from floorcurves.ends import by_ends
from floorcurves.errors import NoBound, NoEnds
from floorcurves.floors import drawings, ends_at, worth
from floorcurves.marks import count_by_floors
from floorcurves.rows import is_row, need_rows, row_weight, weights_of
from strange import FAR_OFF, NOT_WHOLE, Unwritable

WIDE_PAIRS = [(d, k) for d in (1, 2, 3, 4) for k in range(7)] + [(5, 0), (5, 1), (5, 2), (5, 3)]
BOTH = (by_ends, by_ended)

# Neither is a row, whatever the other one is.
NO_ROWS = [thing for thing in NOT_WHOLE if not isinstance(thing, list)] + [
    0, 1, 3, -1, (1,), "1", {1: 1}, [0], [1, 0], [2, 0, 0], [0, 0], [True], [1, True], [False], ["1"], [1, "1"], [None],
    [None, 1], [1.0], [-1], [-1, 1], [3, -1], [1, -1, 1], [[1]], [(1,)], [Unwritable()], [1, Unwritable()], [0, [], 1],
    [float("nan")], [10 ** 60, 0], [-(10 ** 60), 1],
]


def rows_of(weight):
    """All rows of a weight, as lists."""
    if weight == 0:
        return [[]]
    found = []
    for numbers in product(*[range(weight // w + 1) for w in range(1, weight + 1)]):
        if sum(w * number for w, number in enumerate(numbers, start=1)) == weight:
            row = list(numbers)
            while row[-1] == 0:
                row.pop()
            found.append(row)
    return found


def pairs_of_rows(d):
    for weight in range(d + 1):
        for held in rows_of(weight):
            for free in rows_of(d - weight):
                yield held, free


def at(row, w):
    return row[w - 1] if w <= len(row) else 0


def with_one(row, w, more):
    longer = [at(row, place) + (more if place == w else 0) for place in range(1, max(len(row), w) + 1)]
    while longer and longer[-1] == 0:
        longer.pop()
    return longer


def holding_sum(d, k, held, free):
    weights = [w for w in range(1, d + 1) if at(free, w)]
    return sum(w * by_ends(d, k, with_one(held, w, 1), with_one(free, w, -1)) for w in weights)


def taking_sum(d, k, held, free):
    total = 0
    for a, b in pairs_of_rows(d - 1):
        fitting = all(at(a, w) <= at(held, w) and at(b, w) >= at(free, w) for w in range(1, d + 1))
        crossings = k + sum(b) - sum(free) - d + 1
        if fitting and crossings >= 0:
            factor = 1
            for w in range(1, d + 1):
                more = at(b, w) - at(free, w)
                factor *= comb(at(held, w), at(a, w)) * comb(at(b, w), at(free, w)) * w ** more
            total += factor * by_ends(d - 1, crossings, a, b)
    return total


def orders(marks, d):
    """The number of orders of the marks of an ended drawing, alike ones not told apart, mark by mark."""
    known = {(0, tuple(sorted(marks))): 1}
    for step in range(d + len(marks)):
        longer = {}
        for (floor, waiting), number in known.items():
            further = []
            if floor < d and not any(mark[1] == floor + 1 for mark in waiting):
                further.append((floor + 1, waiting))
            for mark in set(waiting):
                if mark[0] <= floor:
                    place = waiting.index(mark)
                    further.append((floor, waiting[:place] + waiting[place + 1:]))
            for key in further:
                longer[key] = longer.get(key, 0) + number
        known = longer
    return sum(known.values())


def slow_by_ended(d, k, held, free):
    """Each ended drawing by itself: every end of both sorts at every floor."""
    held_ends = [(w, n) for w, number in enumerate(held, start=1) for n in range(1, number + 1)]
    free_ends = [w for w, number in enumerate(free, start=1) for again in range(number)]
    total = 0
    for drawing in drawings(d, k):
        leaving = ends_at(d, drawing)
        seen = set()
        for floors in product(range(1, d + 1), repeat=len(held_ends) + len(free_ends)):
            held_at = [(floor, w, n) for floor, (w, n) in zip(floors, held_ends)]
            free_at = sorted(zip(floors[len(held_ends):], free_ends))
            weights = [0] * d
            for end in held_at + free_at:
                weights[end[0] - 1] += end[1]
            key = (tuple(held_at), tuple(free_at))
            if weights == leaving and key not in seen:
                seen.add(key)
                weight = worth(drawing)
                for floor, w in free_at:
                    weight *= w
                total += weight * orders(drawing + [(floor, d + 1, w) for floor, w in free_at], d)
    return total


class Rows(unittest.TestCase):
    def test_rows(self):
        for row in ([], [1], [0, 1], [3, 0, 2], [0, 0, 0, 0, 1], [10 ** 60]):
            self.assertIs(is_row(row), True)
        for place, thing in enumerate(NO_ROWS):
            self.assertIs(is_row(thing), False, place)

    def test_weights(self):
        for row, weight, weights in (([], 0, []), ([2], 2, [1, 1]), ([1, 0, 2], 7, [1, 3, 3]), ([0, 1], 2, [2])):
            self.assertEqual((row_weight(row), weights_of(row)), (weight, weights))
        self.assertIsNone(need_rows(7, [1, 0, 2], []))


class Refused(unittest.TestCase):
    def refused(self, error, d, k, held, free):
        for told in BOTH:
            with self.assertRaises(error) as taken:
                told(d, k, held, free)
            self.assertIs(type(taken.exception), error)

    def test_no_rows(self):
        for d, k in ((1, 0), (2, 1), (3, 0), (5, 3)):
            for thing in NO_ROWS:
                for other in [[], [d], [0, 1], [1]] + NO_ROWS[:3]:
                    self.refused(NoEnds, d, k, thing, other)
                    self.refused(NoEnds, d, k, other, thing)

    def test_noughts_at_the_end(self):
        for d in range(1, 6):
            self.refused(NoEnds, d, 0, [0], [d])
            self.refused(NoEnds, d, 0, [d], [0])
            self.refused(NoEnds, d, 0, [], [d, 0])
            self.refused(NoEnds, d, 0, [d, 0, 0], [])

    def test_other_weights(self):
        for d, k in WIDE_PAIRS:
            for held, free in (([], []), ([d + 1], []), ([], [d + 1]), ([1], [d]), ([d], [1]), ([0, d], []), ([], [0, d])):
                self.refused(NoEnds, d, k, held, free)
            if d > 1:
                self.refused(NoEnds, d, k, [d - 1], [])
                self.refused(NoEnds, d, k, [], [d - 1])
        self.refused(NoEnds, 5, 3, [10 ** 60], [1])
        self.refused(NoEnds, 4, 0, [1, 1], [1, 1])

    def test_bound_is_ahead(self):
        rows = [([], [1]), ([], []), (None, None), ([0], "x"), (Unwritable(), Unwritable()), (True, [1, 0]), ([2], [-1])]
        for d in range(-2, 8):
            for k in range(-2, 10):
                if (d, k) not in WIDE_PAIRS:
                    for held, free in rows:
                        self.refused(NoBound, d, k, held, free)

    def test_other_things(self):
        for thing in NOT_WHOLE + FAR_OFF:
            for d, k in ((thing, 0), (1, thing), (5, thing), (thing, thing), (thing, None), ("", thing), (0, thing)):
                for held, free in (([], [1]), (None, thing), (thing, [0])):
                    self.refused(NoBound, d, k, held, free)


class Counts(unittest.TestCase):
    def test_degree_1(self):
        for told in BOTH:
            for held, free in (([1], []), ([], [1])):
                self.assertEqual([told(1, k, held, free) for k in range(7)], [1, 0, 0, 0, 0, 0, 0])

    def test_by_hand(self):
        for told in BOTH:
            self.assertEqual([told(2, 0, held, free) for held, free in (
                ([], [2]), ([1], [1]), ([2], []), ([], [0, 1]), ([0, 1], []),
            )], [1, 1, 1, 2, 1])
            self.assertEqual([told(2, 1, held, free) for held, free in (
                ([], [2]), ([1], [1]), ([2], []), ([], [0, 1]), ([0, 1], []),
            )], [3, 3, 2, 0, 0])

    def test_curves_that_touch_a_line(self):
        for told in BOTH:
            for d in range(2, 6):
                self.assertEqual(told(d, 0, [], [d - 2, 1] if d > 2 else [0, 1]), 2 * d - 2)
            self.assertEqual(told(3, 1, [], [1, 1]), 36)

    def test_agree_for_all_rows_to_degree_3(self):
        for d in (1, 2, 3):
            for held, free in pairs_of_rows(d):
                for k in range(7):
                    self.assertEqual(by_ends(d, k, held, free), by_ended(d, k, held, free), (d, k, held, free))

    def test_agree_for_higher_degrees(self):
        for d, k in WIDE_PAIRS:
            if d > 3:
                for held, free in pairs_of_rows(d):
                    self.assertEqual(by_ends(d, k, held, free), by_ended(d, k, held, free), (d, k, held, free))

    def test_each_ended_drawing(self):
        for d in (1, 2, 3, 4):
            for held, free in pairs_of_rows(d):
                for k in range(7):
                    told = slow_by_ended(d, k, held, free)
                    self.assertEqual(by_ended(d, k, held, free), told, (d, k, held, free))

    def test_each_step_of_the_sums(self):
        for d, k in WIDE_PAIRS:
            if d > 1:
                for held, free in pairs_of_rows(d):
                    told = holding_sum(d, k, held, free) + taking_sum(d, k, held, free)
                    self.assertEqual(by_ends(d, k, held, free), told, (d, k, held, free))

    def test_none_held_and_all_free_is_the_count_by_floors(self):
        for d, k in WIDE_PAIRS:
            for told in BOTH:
                self.assertEqual(told(d, k, [], [d]), count_by_floors(d, k), (d, k))

    def test_too_many_crossings(self):
        for told in BOTH:
            for d in (1, 2, 3):
                for held, free in pairs_of_rows(d):
                    for k in range(d * (d - 1) // 2 + 1, 7):
                        self.assertEqual(told(d, k, held, free), 0)
                    self.assertGreater(told(d, 0, held, free), 0)


class WhatIsHandedIn(unittest.TestCase):
    def test_it_stays(self):
        for told in BOTH:
            for d in range(1, 6):
                for held, free in pairs_of_rows(d):
                    handed = (list(held), list(free))
                    told(d, 1, *handed)
                    self.assertEqual(handed, (held, free))

    def test_it_may_be_changed_behind_the_call(self):
        for told in BOTH:
            held, free = [1], [1]
            self.assertEqual(told(2, 1, held, free), 3)
            held.append(4)
            free.clear()
            self.assertEqual(told(2, 1, [1], [1]), 3)
            free.extend([0, 1])
            held.clear()
            self.assertEqual((told(2, 1, held, free), told(2, 0, held, free)), (0, 2))

    def test_one_list_as_both(self):
        for told in BOTH:
            row = [1]
            self.assertEqual(told(2, 1, row, row), told(2, 1, [1], [1]))
            self.assertEqual(row, [1])


if __name__ == "__main__":
    unittest.main()
