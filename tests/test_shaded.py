import unittest
from itertools import product
from math import comb

from floorcurves.cuttings import cuttings
from floorcurves.ends import by_ends
from floorcurves.errors import NoBound, NoEnds
from floorcurves.floors import drawings, ends_at
from floorcurves.marks import count_by_floors, markings
from floorcurves.shaded import shade_by_ends, shade_by_floors, shade_by_ways
from floorcurves.shades import at_one, turned
from floorcurves.triangle import corner
from floorcurves.ways import count_by_ways, ways
from strange import FAR_OFF, NOT_WHOLE, Unwritable
from test_ends import NO_ROWS, at, orders, pairs_of_rows, with_one

NARROW_PAIRS = [(d, k) for d in (1, 2, 3) for k in range(7)] + [(4, 0), (4, 1), (4, 2)]
WIDE_PAIRS = [(d, k) for d in (1, 2, 3, 4) for k in range(7)] + [(5, 0), (5, 1), (5, 2), (5, 3)]

KNOWN = {
    (1, 0): (0, [1]), (1, 1): (0, []), (2, 0): (0, [1]), (2, 1): (0, [3]), (2, 2): (0, []), (3, 0): (0, [1]),
    (3, 1): (-2, [1, 0, 10, 0, 1]), (3, 2): (0, [21]), (3, 3): (0, [15]), (3, 4): (0, []),
    (4, 1): (-2, [3, 0, 21, 0, 3]), (4, 2): (-4, [3, 0, 33, 0, 153, 0, 33, 0, 3]),
    (4, 3): (-6, [1, 0, 13, 0, 94, 0, 459, 0, 94, 0, 13, 0, 1]), (4, 4): (-2, [45, 0, 576, 0, 45]), (4, 5): (0, [378]),
    (4, 6): (0, [105]), (5, 1): (-2, [6, 0, 36, 0, 6]), (5, 2): (-4, [15, 0, 156, 0, 540, 0, 156, 0, 15]),
    (5, 3): (-6, [20, 0, 268, 0, 1555, 0, 4229, 0, 1555, 0, 268, 0, 20]),
}


class Sum:
    """A sum of powers of the letter, kept by power."""

    def __init__(self):
        self.numbers = {}

    def take(self, number, weights):
        powers = {0: number}
        for w in weights:
            wider = {}
            for power, there in powers.items():
                for more in range(1 - w, w, 2):
                    wider[power + more] = wider.get(power + more, 0) + there
            powers = wider
        self.take_powers(powers)

    def take_powers(self, powers):
        for power, number in powers.items():
            self.numbers[power] = self.numbers.get(power, 0) + number

    def take_shade(self, number, weights, one):
        for place, there in enumerate(one[1]):
            part = Sum()
            part.take(number * there, weights)
            self.take_powers({power + one[0] + place: there for power, there in part.numbers.items()})

    def told(self):
        powers = [power for power, number in self.numbers.items() if number]
        if not powers:
            return (0, [])
        return (min(powers), [self.numbers.get(power, 0) for power in range(min(powers), max(powers) + 1)])


def slow_by_ways(d, k):
    total = Sum()
    for way in ways(d, k):
        for cutting in cuttings(d, way):
            total.take(1, [abs(corner(*piece)) for piece in cutting if len(piece) == 3])
    return total.told()


def slow_by_floors(d, k):
    total = Sum()
    for drawing in drawings(d, k):
        total.take(len(markings(d, drawing)), [w for i, j, w in drawing for again in range(2)])
    return total.told()


def slow_by_ended(d, k, held, free):
    """Each ended drawing by itself: every end of both sorts at every floor."""
    held_ends = [w for w, number in enumerate(held, start=1) for n in range(number)]
    free_ends = [w for w, number in enumerate(free, start=1) for n in range(number)]
    total = Sum()
    for drawing in drawings(d, k):
        leaving = ends_at(d, drawing)
        seen = set()
        for floors in product(range(1, d + 1), repeat=len(held_ends) + len(free_ends)):
            held_at = list(zip(floors, held_ends))
            free_at = sorted(zip(floors[len(held_ends):], free_ends))
            weights = [sum(w for floor, w in held_at + free_at if floor == here) for here in range(1, d + 1)]
            key = (tuple(held_at), tuple(free_at))
            if weights == leaving and key not in seen:
                seen.add(key)
                number = orders(drawing + [(floor, d + 1, w) for floor, w in free_at], d)
                total.take(number, [w for i, j, w in drawing for again in range(2)] + free_ends)
    return total.told()


def slow_by_ends(d, k, held, free):
    """One step of the sums of point 25, with stretches."""
    total = Sum()
    for w in range(1, d + 1):
        if at(free, w):
            total.take_shade(1, [w], shade_by_ends(d, k, with_one(held, w, 1), with_one(free, w, -1)))
    for a, b in pairs_of_rows(d - 1):
        fitting = all(at(a, w) <= at(held, w) and at(b, w) >= at(free, w) for w in range(1, d + 1))
        crossings = k + sum(b) - sum(free) - d + 1
        if fitting and crossings >= 0:
            number = 1
            gained = []
            for w in range(1, d + 1):
                number *= comb(at(held, w), at(a, w)) * comb(at(b, w), at(free, w))
                gained.extend([w] * (at(b, w) - at(free, w)))
            total.take_shade(number, gained, shade_by_ends(d - 1, crossings, a, b))
    return total.told()


class ShadesOfCounts(unittest.TestCase):
    def is_shade(self, one, d):
        low, numbers = one
        self.assertTrue(type(one) is tuple and type(low) is int and type(numbers) is list)
        if not numbers:
            self.assertEqual(low, 0)
        else:
            self.assertTrue(numbers[0] != 0 and numbers[-1] != 0)

    def test_known(self):
        for (d, k), known in KNOWN.items():
            self.assertEqual(shade_by_floors(d, k), known)
            self.assertEqual(shade_by_ends(d, k, [], [d]), known)
            if (d, k) in NARROW_PAIRS:
                self.assertEqual(shade_by_ways(d, k), known)

    def test_they_are_one(self):
        for d, k in WIDE_PAIRS:
            self.assertEqual(shade_by_floors(d, k), shade_by_ends(d, k, [], [d]), (d, k))
        for d, k in NARROW_PAIRS:
            self.assertEqual(shade_by_floors(d, k), shade_by_ways(d, k), (d, k))

    def test_at_one_turned_and_none_below(self):
        asked = [(shade_by_ways(d, k), count_by_ways(d, k)) for d, k in NARROW_PAIRS]
        asked += [(shade_by_floors(d, k), count_by_floors(d, k)) for d, k in WIDE_PAIRS]
        asked += [(shade_by_ends(d, k, [], [d]), by_ends(d, k, [], [d])) for d, k in WIDE_PAIRS]
        for one, count in asked:
            self.is_shade(one, count)
            self.assertEqual(at_one(one), count)
            self.assertEqual(turned(one), one)
            self.assertTrue(all(number >= 0 for number in one[1]))

    def test_by_ways_cutting_by_cutting(self):
        for d, k in NARROW_PAIRS:
            self.assertEqual(shade_by_ways(d, k), slow_by_ways(d, k), (d, k))

    def test_by_floors_drawing_by_drawing(self):
        for d, k in WIDE_PAIRS:
            self.assertEqual(shade_by_floors(d, k), slow_by_floors(d, k), (d, k))

    def test_by_ends_at_one(self):
        for d, k in WIDE_PAIRS:
            for held, free in pairs_of_rows(d):
                one = shade_by_ends(d, k, held, free)
                self.is_shade(one, d)
                self.assertEqual(at_one(one), by_ends(d, k, held, free), (d, k, held, free))
                self.assertEqual(turned(one), one)

    def test_by_ends_each_step_of_the_sums(self):
        for d, k in WIDE_PAIRS:
            for held, free in pairs_of_rows(d):
                told = slow_by_ends(d, k, held, free) if d > 1 else (0, [1] if k == 0 else [])
                self.assertEqual(shade_by_ends(d, k, held, free), told, (d, k, held, free))

    def test_by_ends_is_by_ended_drawings(self):
        for d in (1, 2, 3):
            for held, free in pairs_of_rows(d):
                for k in range(4):
                    self.assertEqual(shade_by_ends(d, k, held, free), slow_by_ended(d, k, held, free), (d, k, held, free))
        for k in range(7):
            for held, free in (([], [0, 2]), ([1], [1, 1]), ([0, 1], [2]), ([], [1, 0, 1]), ([], [0, 0, 0, 1])):
                self.assertEqual(shade_by_ends(4, k, held, free), slow_by_ended(4, k, held, free), (k, held, free))

    def test_by_hand(self):
        self.assertEqual(shade_by_ends(2, 0, [], [0, 1]), (-1, [1, 0, 1]))
        self.assertEqual(shade_by_ends(2, 0, [0, 1], []), (0, [1]))
        self.assertEqual(shade_by_ends(2, 1, [], [0, 1]), (0, []))


class Refused(unittest.TestCase):
    def refused(self, error, told, *asked):
        with self.assertRaises(error) as taken:
            told(*asked)
        self.assertIs(type(taken.exception), error)

    def test_pairs_beyond(self):
        for d in range(-2, 8):
            for k in range(-2, 10):
                if (d, k) not in NARROW_PAIRS:
                    self.refused(NoBound, shade_by_ways, d, k)
                if (d, k) not in WIDE_PAIRS:
                    self.refused(NoBound, shade_by_floors, d, k)
                    for held, free in (([], [1]), ([], []), (None, None), (Unwritable(), [0]), (True, [-1])):
                        self.refused(NoBound, shade_by_ends, d, k, held, free)

    def test_other_things(self):
        for thing in NOT_WHOLE + FAR_OFF:
            for d, k in ((thing, 0), (1, thing), (4, thing), (thing, thing), (thing, None), ("", thing), (0, thing)):
                self.refused(NoBound, shade_by_ways, d, k)
                self.refused(NoBound, shade_by_floors, d, k)
                self.refused(NoBound, shade_by_ends, d, k, [], [1])
                self.refused(NoBound, shade_by_ends, d, k, thing, [0])

    def test_no_rows(self):
        for d, k in ((1, 0), (3, 1), (5, 3)):
            for thing in NO_ROWS:
                self.refused(NoEnds, shade_by_ends, d, k, thing, [d])
                self.refused(NoEnds, shade_by_ends, d, k, [], thing)
                self.refused(NoEnds, shade_by_ends, d, k, thing, thing)

    def test_other_weights(self):
        for d, k in WIDE_PAIRS:
            for held, free in (([], []), ([d + 1], []), ([], [d + 1]), ([1], [d]), ([d], [1]), ([0, d], []), ([], [0, d])):
                self.refused(NoEnds, shade_by_ends, d, k, held, free)


class WhoseListsTheyAre(unittest.TestCase):
    def test_handed_in_stays(self):
        for d in range(1, 6):
            for held, free in pairs_of_rows(d):
                handed = (list(held), list(free))
                shade_by_ends(d, 1, *handed)
                self.assertEqual(handed, (held, free))

    def test_told_lists_are_the_askers_own(self):
        for d, k in WIDE_PAIRS:
            asks = [lambda: shade_by_floors(d, k), lambda: shade_by_ends(d, k, [], [d])]
            if (d, k) in NARROW_PAIRS:
                asks.append(lambda: shade_by_ways(d, k))
            for ask in asks:
                first = ask()
                kept = (first[0], list(first[1]))
                first[1].clear()
                first[1].append("changed")
                self.assertEqual([again() for again in asks], [kept] * len(asks))


if __name__ == "__main__":
    unittest.main()
