import copy
import random
import unittest
from fractions import Fraction
from math import gcd

from floorcurves.errors import CurveError, NoBound, NoDrawing, NoEnds, NoNumber, NoText
from floorcurves.polys import plus, poly, through, times, value

GREAT = 10 ** 60 - 1
BOTTOMS = [1, -1, 2, -2, 3, 6, -12, 35, 10 ** 30 + 57, GREAT, -GREAT]


def some_tops(source, most=8):
    size = source.choice([0, 1, 2, 3, most])
    figures = source.choice([1, 2, 20, 60])
    return [source.choice([0, 1, 1]) * source.randint(-(10 ** figures) + 1, 10 ** figures - 1) for place in range(size)]


def some_polys(seed, how_many):
    source = random.Random(seed)
    return [poly(some_tops(source), source.choice(BOTTOMS)) for place in range(how_many)]


def as_fractions(one):
    return [Fraction(top, one[1]) for top in one[0]]


def without_noughts(fractions):
    while fractions and fractions[-1] == 0:
        fractions = fractions[:-1]
    return fractions


def value_of(fractions, at):
    return sum((part * at ** place for place, part in enumerate(fractions)), Fraction(0))


class PolyCase(unittest.TestCase):
    def assert_form(self, one):
        self.assertIs(type(one), tuple)
        self.assertEqual(len(one), 2)
        tops, bottom = one
        self.assertIs(type(tops), list)
        for number in tops + [bottom]:
            self.assertIs(type(number), int)
        self.assertGreaterEqual(bottom, 1)
        if tops:
            self.assertNotEqual(tops[-1], 0)
        self.assertEqual(gcd(bottom, *tops), 1)

    def assert_is(self, one, fractions):
        self.assert_form(one)
        self.assertEqual(as_fractions(one), without_noughts(fractions))


class Making(PolyCase):
    def test_by_hand(self):
        for tops, bottom, told in [
            ([1], 1, ([1], 1)),
            ([2, 4], 6, ([1, 2], 3)),
            ([2, 4], -6, ([-1, -2], 3)),
            ([-2, 4], -2, ([1, -2], 1)),
            ([0, 3], 9, ([0, 1], 3)),
            ([5, 0, 0], 10, ([1], 2)),
            ([5, 0, 7, 0], 1, ([5, 0, 7], 1)),
            ([6, 10, 15], 30, ([6, 10, 15], 30)),
            ([12, 18], 5, ([12, 18], 5)),
            ([-4], 4, ([-1], 1)),
            ([7], -1, ([-7], 1)),
        ]:
            self.assertEqual(poly(tops, bottom), told)

    def test_nought(self):
        for tops in ([], [0], [0, 0, 0], [0] * 40):
            for bottom in BOTTOMS:
                self.assertEqual(poly(tops, bottom), ([], 1))

    def test_forty_tops(self):
        self.assertEqual(poly(list(range(2, 82, 2)), 2), (list(range(1, 41)), 1))
        self.assertEqual(poly([0] * 39 + [-9], -6), ([0] * 39 + [3], 2))
        self.assertEqual(poly([4] + [0] * 39, 6), ([2], 3))

    def test_sixty_figures(self):
        self.assertEqual(poly([GREAT, -GREAT], GREAT), ([1, -1], 1))
        self.assertEqual(poly([GREAT, -GREAT], -GREAT), ([-1, 1], 1))
        self.assertEqual(poly([GREAT - 1], GREAT), ([GREAT - 1], GREAT))
        self.assertEqual(poly([-GREAT, 0, GREAT - 1], -1), ([GREAT, 0, 1 - GREAT], 1))
        self.assertEqual(poly([3 * 10 ** 59, 9 * 10 ** 59], 6 * 10 ** 59), ([1, 3], 2))

    def test_against_fractions(self):
        source = random.Random(5)
        for turn in range(400):
            tops = some_tops(source, 40)
            bottom = source.choice(BOTTOMS)
            self.assert_is(poly(tops, bottom), [Fraction(top, bottom) for top in tops])

    def test_bottom_nought_is_refused(self):
        for tops in ([], [0], [1], [0, 0], [GREAT] * 40):
            for taker in (NoNumber, CurveError, ValueError):
                with self.assertRaises(taker) as taken:
                    poly(tops, 0)
                self.assertIs(type(taken.exception), NoNumber)
                for other in (NoBound, NoDrawing, NoEnds, NoText):
                    self.assertNotIsInstance(taken.exception, other)


class SumsAndProducts(PolyCase):
    def test_sums_by_hand(self):
        for one, other, told in [
            (([1], 2), ([1], 3), ([5], 6)),
            (([1], 2), ([1], 2), ([1], 1)),
            (([1, 1], 2), ([1, -1], 2), ([1], 1)),
            (([1, 2], 3), ([-1, -2], 3), ([], 1)),
            (([], 1), ([], 1), ([], 1)),
            (([], 1), ([1, 2], 7), ([1, 2], 7)),
            (([1, 2], 7), ([], 1), ([1, 2], 7)),
            (([0, 0, 1], 6), ([1], 10), ([3, 0, 5], 30)),
            (([1, 0, 5], 6), ([0, 0, -5], 6), ([1], 6)),
            (([1], 6), ([1], 3), ([1], 2)),
        ]:
            self.assertEqual(plus(one, other), told)

    def test_products_by_hand(self):
        for one, other, told in [
            (([1, 1], 1), ([1, -1], 1), ([1, 0, -1], 1)),
            (([1, 1], 2), ([2], 3), ([1, 1], 3)),
            (([], 1), ([1, 2], 7), ([], 1)),
            (([1, 2], 7), ([], 1), ([], 1)),
            (([], 1), ([], 1), ([], 1)),
            (([2], 3), ([3], 2), ([1], 1)),
            (([1, 1], 1), ([1, 1], 1), ([1, 2, 1], 1)),
            (([0, 1], 4), ([0, 0, 6], 5), ([0, 0, 0, 3], 10)),
            (([1, -1], 3), ([1, 1, 1], 1), ([1, 0, 0, -1], 3)),
        ]:
            self.assertEqual(times(one, other), told)

    def test_against_fractions(self):
        for one, other in zip(some_polys(1, 300), some_polys(2, 300)):
            left, right = as_fractions(one), as_fractions(other)
            total = [Fraction(0)] * max(len(left), len(right))
            for part in (left, right):
                for place, number in enumerate(part):
                    total[place] += number
            self.assert_is(plus(one, other), total)
            product = [Fraction(0)] * (len(left) + len(right))
            for place, number in enumerate(left):
                for further, factor in enumerate(right):
                    product[place + further] += number * factor
            self.assert_is(times(one, other), product)

    def test_forty_tops(self):
        ones = poly([1] * 40, 1)
        self.assertEqual(plus(ones, ones), ([2] * 40, 1))
        self.assertEqual(times(ones, ones), (list(range(1, 41)) + list(range(39, 0, -1)), 1))
        self.assertEqual(plus(ones, poly([-1] * 40, 1)), ([], 1))
        self.assertEqual(plus(ones, poly([0] + [-1] * 39, 1)), ([1], 1))


class Values(PolyCase):
    def test_by_hand(self):
        for one, at, told in [
            (([], 1), 0, (0, 1)),
            (([], 1), -7, (0, 1)),
            (([3], 4), 12, (3, 4)),
            (([0, 1], 6), 3, (1, 2)),
            (([0, 1], 6), -4, (-2, 3)),
            (([0, 1], 6), 0, (0, 1)),
            (([1, 1], 5), -1, (0, 1)),
            (([1, 2, 3], 1), -2, (9, 1)),
            (([-5, 0, 5], 10), 0, (-1, 2)),
            (([0, -1, 1], 2), GREAT, (GREAT * (GREAT - 1) // 2, 1)),
        ]:
            self.assertEqual(value(one, at), told)

    def test_against_fractions(self):
        for one in some_polys(3, 200):
            for at in (-GREAT, -10, -2, -1, 0, 1, 2, 3, 12, GREAT):
                told = value(one, at)
                self.assertIs(type(told), tuple)
                asked = value_of(as_fractions(one), at)
                self.assertEqual(told, (asked.numerator, asked.denominator))


class Through(PolyCase):
    def goes_through(self, start, values):
        told = through(start, values)
        self.assert_form(told)
        self.assertLessEqual(len(told[0]), len(values))
        for place, asked in enumerate(values):
            self.assertEqual(value(told, start + place), (asked, 1))

    def test_by_hand(self):
        self.assertEqual(through(0, [5]), ([5], 1))
        self.assertEqual(through(-9, [0]), ([], 1))
        self.assertEqual(through(0, [0, 1]), ([0, 1], 1))
        self.assertEqual(through(1, [0, 0, 1]), ([2, -3, 1], 2))
        self.assertEqual(through(-2, [4, 1, 0, 1, 4]), ([0, 0, 1], 1))
        self.assertEqual(through(0, [0, 0, 0, 1]), ([0, 2, -3, 1], 6))

    def test_how_many_values(self):
        source = random.Random(8)
        for size in range(1, 13):
            for start in (-GREAT, -100, -size, -1, 0, 1, 7, GREAT):
                for figures in (1, 3, 60):
                    most = 10 ** figures - 1
                    self.goes_through(start, [source.randint(-most, most) for place in range(size)])

    def test_all_nought(self):
        for size in range(1, 13):
            for start in (-20, -1, 0, 5):
                self.assertEqual(through(start, [0] * size), ([], 1))

    def test_values_of_fewer_tops(self):
        for tops in ([3], [0, 1], [1, -2, 5], [7, 0, 0, -1]):
            for size in range(len(tops), 13):
                for start in (-15, -3, 0, 4):
                    values = [sum(top * at ** place for place, top in enumerate(tops)) for at in range(start, start + size)]
                    self.assertEqual(through(start, values), (tops, 1))

    def test_values_of_a_polynomial_with_a_bottom(self):
        values = [at * (at - 1) * (at + 1) // 6 for at in range(-4, 4)]
        self.assertEqual(through(-4, values), ([0, -1, 0, 1], 6))


class WhoseListsTheyAre(unittest.TestCase):
    def test_handed_in_stays(self):
        tops, values = [2, 4, 0, 0], [3, 1, 4, 1, 5]
        one, other, nought = ([1, 2], 3), ([0, 0, 5], 7), ([], 1)
        poly(tops, -6)
        through(-2, values)
        with self.assertRaises(NoNumber):
            poly(tops, 0)
        for left in (one, other, nought):
            value(left, 3)
            for right in (one, other, nought):
                plus(left, right)
                times(left, right)
        self.assertEqual((tops, values), ([2, 4, 0, 0], [3, 1, 4, 1, 5]))
        self.assertEqual((one, other, nought), (([1, 2], 3), ([0, 0, 5], 7), ([], 1)))

    def test_handed_in_may_be_changed_behind_the_call(self):
        tops = [1, 2, 3]
        told = poly(tops, 1)
        tops.clear()
        self.assertEqual(told, ([1, 2, 3], 1))
        values = [1, 4, 9]
        square = through(1, values)
        values[0] = 100
        self.assertEqual(square, ([0, 0, 1], 1))
        one = ([1, 1], 1)
        for other in (([], 1), ([1], 1), one):
            for reckoned in (plus, times):
                first = reckoned(one, other)
                kept = copy.deepcopy(first)
                one[0].append(9)
                other[0].append(8)
                self.assertEqual(first, kept)
                one[0][:] = [1, 1]
                other[0][:] = other[0][:-1] if other is not one else [1, 1]

    def test_told_lists_are_the_askers_own(self):
        tops = [1, 2]
        one, nought, unit = ([1, 2], 3), ([], 1), ([1], 1)
        asks = [
            lambda: poly(tops, 1), lambda: poly([], 5), lambda: plus(one, nought), lambda: plus(nought, one),
            lambda: plus(nought, nought), lambda: times(one, unit), lambda: times(unit, one),
            lambda: times(one, nought), lambda: through(0, [0, 0]), lambda: through(0, [4, 5]),
        ]
        for ask in asks:
            first = ask()
            kept = copy.deepcopy(first)
            first[0].append(77)
            self.assertEqual(ask(), kept)
            first[0].clear()
            self.assertEqual(ask(), kept)
        self.assertEqual((tops, one, nought, unit), ([1, 2], ([1, 2], 3), ([], 1), ([1], 1)))


if __name__ == "__main__":
    unittest.main()
