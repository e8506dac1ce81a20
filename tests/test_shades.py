import copy
import random
import unittest

from floorcurves.shades import added, at_one, mixed, shade, stretch, turned

GREAT = 10 ** 60 - 1
NOUGHT = (0, [])


def by_power(one):
    return {one[0] + place: number for place, number in enumerate(one[1]) if number}


def some_shades(seed, how_many):
    source = random.Random(seed)
    found = []
    for turn in range(how_many):
        size = source.choice([0, 1, 2, 5, 30, 100])
        most = source.choice([1, 3, GREAT])
        low = source.choice([-200, -7, -1, 0, 1, 5, 200])
        found.append(shade(low, [source.choice([0, 1]) * source.randint(-most, most) for place in range(size)]))
    return found


class ShadeCase(unittest.TestCase):
    def assert_form(self, one):
        self.assertIs(type(one), tuple)
        self.assertEqual(len(one), 2)
        low, numbers = one
        self.assertIs(type(numbers), list)
        for number in numbers + [low]:
            self.assertIs(type(number), int)
        if numbers:
            self.assertNotEqual(numbers[0], 0)
            self.assertNotEqual(numbers[-1], 0)
        else:
            self.assertEqual(low, 0)

    def assert_is(self, one, powers):
        self.assert_form(one)
        self.assertEqual(by_power(one), {power: number for power, number in powers.items() if number})


class Making(ShadeCase):
    def test_by_hand(self):
        for low, numbers, told in [
            (0, [1], (0, [1])),
            (3, [0, 0, 5], (5, [5])),
            (-3, [0, 0, 5, 0], (-1, [5])),
            (-1, [1, 0, 1], (-1, [1, 0, 1])),
            (7, [2, 0, 0], (7, [2])),
            (-2, [0, 0, -1, 0, 4, 0], (0, [-1, 0, 4])),
            (200, [0, 1], (201, [1])),
            (-200, [GREAT, -GREAT], (-200, [GREAT, -GREAT])),
        ]:
            self.assertEqual(shade(low, numbers), told)

    def test_nought(self):
        for low in (-200, -1, 0, 1, 200):
            for numbers in ([], [0], [0, 0], [0] * 100):
                self.assertEqual(shade(low, numbers), NOUGHT)

    def test_all_lows_and_a_hundred_numbers(self):
        for low in range(-200, 201):
            self.assertEqual(shade(low, [1] * 100), (low, [1] * 100))
            self.assertEqual(shade(low, [0] * 99 + [-6]), (low + 99, [-6]))
            self.assertEqual(shade(low, [-6] + [0] * 99), (low, [-6]))
            self.assertEqual(shade(low, [0] + [2] * 98 + [0]), (low + 1, [2] * 98))


class SumsAndProducts(ShadeCase):
    def test_sums_by_hand(self):
        for one, other, told in [
            ((0, [1]), (0, [1]), (0, [2])),
            ((-1, [1, 0, 1]), (0, [3]), (-1, [1, 3, 1])),
            ((2, [1]), (-2, [1]), (-2, [1, 0, 0, 0, 1])),
            ((-2, [1]), (2, [1]), (-2, [1, 0, 0, 0, 1])),
            ((1, [1, 2]), (1, [-1, 3]), (2, [5])),
            ((1, [1, 2]), (1, [4, -2]), (1, [5])),
            ((5, [1, 2]), (5, [-1, -2]), NOUGHT),
            ((5, [1, 2]), NOUGHT, (5, [1, 2])),
            (NOUGHT, (-5, [1, 2]), (-5, [1, 2])),
            (NOUGHT, NOUGHT, NOUGHT),
            ((-3, [1, 1, 1]), (-2, [-1]), (-3, [1, 0, 1])),
        ]:
            self.assertEqual(added(one, other), told)

    def test_products_by_hand(self):
        for one, other, told in [
            ((-1, [1, 0, 1]), (-1, [1, 0, 1]), (-2, [1, 0, 2, 0, 1])),
            ((3, [2]), (-5, [7]), (-2, [14])),
            ((0, [1, 1]), (0, [1, -1]), (0, [1, 0, -1])),
            ((9, [1, 2]), NOUGHT, NOUGHT),
            (NOUGHT, (-9, [1, 2]), NOUGHT),
            (NOUGHT, NOUGHT, NOUGHT),
            ((4, [1, 2]), (0, [1]), (4, [1, 2])),
        ]:
            self.assertEqual(mixed(one, other), told)

    def test_against_powers(self):
        for one, other in zip(some_shades(1, 150), some_shades(2, 150)):
            left, right = by_power(one), by_power(other)
            self.assert_is(added(one, other), {p: left.get(p, 0) + right.get(p, 0) for p in set(left) | set(right)})
            product = {}
            for power, number in left.items():
                for further, factor in right.items():
                    product[power + further] = product.get(power + further, 0) + number * factor
            self.assert_is(mixed(one, other), product)


class TurnedAndAtOne(ShadeCase):
    def test_turned_by_hand(self):
        for one, told in [
            (NOUGHT, NOUGHT),
            ((0, [4]), (0, [4])),
            ((3, [4]), (-3, [4])),
            ((1, [1, 2, 3]), (-3, [3, 2, 1])),
            ((-4, [5, 0, 1]), (2, [1, 0, 5])),
            ((-1, [1, 7, 1]), (-1, [1, 7, 1])),
        ]:
            self.assertEqual(turned(one), told)

    def test_turned_and_twice_turned(self):
        for one in some_shades(3, 150):
            once = turned(one)
            self.assert_is(once, {-power: number for power, number in by_power(one).items()})
            self.assertEqual(turned(once), one)

    def test_at_one(self):
        self.assertEqual(at_one(NOUGHT), 0)
        self.assertEqual(at_one((-7, [3])), 3)
        self.assertEqual(at_one((5, [1, -1, 4])), 4)
        self.assertEqual(at_one((5, [1, -1])), 0)
        self.assertIs(type(at_one(NOUGHT)), int)
        for one, other in zip(some_shades(4, 150), some_shades(5, 150)):
            self.assertEqual(at_one(one), sum(one[1]))
            self.assertEqual(at_one(turned(one)), at_one(one))
            self.assertEqual(at_one(added(one, other)), at_one(one) + at_one(other))
            self.assertEqual(at_one(mixed(one, other)), at_one(one) * at_one(other))


class Stretches(ShadeCase):
    def test_by_hand(self):
        self.assertEqual(stretch(1), (0, [1]))
        self.assertEqual(stretch(2), (-1, [1, 0, 1]))
        self.assertEqual(stretch(3), (-2, [1, 0, 1, 0, 1]))

    def test_each(self):
        for w in range(1, 61):
            one = stretch(w)
            self.assert_is(one, {power: 1 for power in range(1 - w, w, 2)})
            self.assertEqual(at_one(one), w)
            self.assertEqual(turned(one), one)


class WhoseListsTheyAre(unittest.TestCase):
    def test_handed_in_stays(self):
        numbers = [0, 1, 2, 0]
        one, other, nought = (-1, [1, 0, 1]), (3, [2, 5]), (0, [])
        shade(4, numbers)
        for left in (one, other, nought):
            turned(left)
            at_one(left)
            for right in (one, other, nought):
                added(left, right)
                mixed(left, right)
        self.assertEqual(numbers, [0, 1, 2, 0])
        self.assertEqual((one, other, nought), ((-1, [1, 0, 1]), (3, [2, 5]), (0, [])))

    def test_handed_in_may_be_changed_behind_the_call(self):
        for numbers in ([], [1, 2], [0, 1]):
            one, other = (0, list(numbers)), (0, [3])
            told = [shade(0, one[1]), turned(one), added(one, other), added(other, one), mixed(one, (0, [1]))]
            kept = copy.deepcopy(told)
            one[1].append(9)
            other[1].clear()
            self.assertEqual(told, kept)

    def test_told_lists_are_the_askers_own(self):
        one, nought, unit = (-1, [1, 0, 1]), (0, []), (0, [1])
        asks = [
            lambda: shade(2, one[1]), lambda: shade(2, []), lambda: added(one, nought), lambda: added(nought, one),
            lambda: added(nought, nought), lambda: mixed(one, unit), lambda: mixed(unit, one),
            lambda: mixed(one, nought), lambda: turned(one), lambda: turned(unit), lambda: turned(nought),
            lambda: stretch(1), lambda: stretch(60),
        ]
        for ask in asks:
            first = ask()
            kept = copy.deepcopy(first)
            first[1].append(77)
            self.assertEqual(ask(), kept)
            first[1].clear()
            self.assertEqual(ask(), kept)
        self.assertEqual((one, nought, unit), ((-1, [1, 0, 1]), (0, []), (0, [1])))


if __name__ == "__main__":
    unittest.main()
