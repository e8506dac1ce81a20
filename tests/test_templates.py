import copy
import unittest
from itertools import combinations_with_replacement, permutations

from floorcurves.ends import by_ends
from floorcurves.errors import NoBound
from floorcurves.marks import count_by_floors
from floorcurves.templates import count_by_templates, least_place, load, templates, words_at
from floorcurves.ways import count_by_ways
from strange import FAR_OFF, NOT_WHOLE

NARROW_PAIRS = [(d, k) for d in (1, 2, 3) for k in range(4)] + [(4, 0), (4, 1), (4, 2)]
EVERY = [template for k in (1, 2, 3) for template in templates(k)]

# Worked out by hand: a template, its loads from 1 on, its least place, its words at the places from 1 on.
BY_HAND = [
    ([(0, 1, 2)], [2], 2, [0, 1, 2, 3, 4]),
    ([(0, 2, 1)], [1, 1], 1, [3, 5, 7, 9, 11]),
    ([(0, 1, 3)], [3], 3, [0, 0, 1, 2, 3]),
    ([(0, 1, 2), (0, 1, 2)], [4], 4, [0, 0, 0, 1, 3, 6]),
    ([(0, 2, 1), (1, 2, 2)], [1, 3], 2, [0, 4, 12]),
    ([(0, 2, 2)], [2, 2], 2, [0, 3, 5]),
    ([(0, 3, 1)], [1, 1, 1], 1, [6, 9]),
    ([(0, 2, 1), (0, 2, 1)], [2, 2], 2, [0, 6]),
    ([(0, 2, 1), (1, 3, 1)], [1, 2, 1], 1, [9]),
]


def length_of(template):
    return max(j for i, j, w in template)


def crossings_of(template):
    return sum((j - i) * w - 1 for i, j, w in template)


def slow_templates(k):
    """Every list of at most k lifts, with room to spare."""
    lifts = [(i, j, w) for i in range(k + 2) for j in range(i + 1, k + 4) for w in range(1, k + 3)]
    lifts = [(i, j, w) for i, j, w in lifts if (j - i, w) != (1, 1) and (j - i) * w - 1 <= k]
    found = []
    for number in range(1, k + 1):
        for chosen in combinations_with_replacement(lifts, number):
            between = range(1, length_of(chosen))
            covered = all(any(i < place < j for i, j, w in chosen) for place in between)
            if min(i for i, j, w in chosen) == 0 and covered and crossings_of(chosen) == k:
                found.append(sorted(chosen))
    return sorted(found)


def slow_load(template, j):
    return sum(w for i, h, w in template if j in range(i + 1, h + 1))


def stands(template, place):
    return all(place + j - 1 >= slow_load(template, j) for j in range(1, length_of(template) + 1))


def all_lifts(template, place):
    filling = []
    for j in range(1, length_of(template) + 1):
        filling.extend([(j - 1, j, 1)] * (place + j - 1 - slow_load(template, j)))
    return sorted(template + filling)


def words(template, place):
    """The words one by one: every order of the lifts and the floors."""
    between = list(range(1, length_of(template)))
    found = set()
    for order in permutations(all_lifts(template, place) + between):
        at = {thing: number for number, thing in enumerate(order) if thing in between}
        behind = all(at.get(i, -1) < number < at.get(h, len(order))
                     for number, (i, h, w) in [(n, lift) for n, lift in enumerate(order) if lift not in between])
        if [thing for thing in order if thing in between] == between and behind:
            found.add(order)
    return found


def slow_words_at(template, place):
    """The number of words, sign by sign: what is left to stand tells how it can go on."""
    if not stands(template, place):
        return 0
    lifts = all_lifts(template, place)
    kinds = sorted(set(lifts))
    last = length_of(template) - 1
    known = {(0, tuple(lifts.count(kind) for kind in kinds)): 1}
    for step in range(last + len(lifts)):
        longer = {}
        for (floor, left), number in known.items():
            further = [(floor, left[:n] + (left[n] - 1,) + left[n + 1:])
                       for n, kind in enumerate(kinds) if left[n] and kind[0] <= floor]
            if floor < last and not any(left[n] for n, kind in enumerate(kinds) if kind[1] == floor + 1):
                further.append((floor + 1, left))
            for key in further:
                longer[key] = longer.get(key, 0) + number
        known = longer
    return sum(known.values())


def squares(template):
    product = 1
    for i, j, w in template:
        product *= w * w
    return product


def rows_of_templates(k):
    if k == 0:
        return [[]]
    return [[first] + rest for first in EVERY if crossings_of(first) <= k
            for rest in rows_of_templates(k - crossings_of(first))]


class SlowCount:
    """The sum of point 33, row by row of templates and place by place."""

    def __init__(self):
        self.known = {}

    def words(self, template, place):
        key = (tuple(template), place)
        if key not in self.known:
            self.known[key] = slow_words_at(template, place)
        return self.known[key]

    def of_row(self, d, row, first):
        if not row:
            return 1
        reached = length_of(row[0])
        light = all(w == 1 for i, j, w in row[0] if j == reached)
        greatest = d + 1 if len(row) == 1 and light else d
        total = 0
        for place in range(first, greatest - reached + 1):
            here = self.words(row[0], place) * squares(row[0])
            if here:
                total += here * self.of_row(d, row[1:], place + reached)
        return total

    def count(self, d, k):
        return sum(self.of_row(d, row, 1) for row in rows_of_templates(k))


class Templates(unittest.TestCase):
    def test_one_crossing(self):
        self.assertEqual(templates(1), [[(0, 1, 2)], [(0, 2, 1)]])

    def test_two_crossings(self):
        self.assertEqual(templates(2), [
            [(0, 1, 2), (0, 1, 2)], [(0, 1, 2), (0, 2, 1)], [(0, 1, 3)], [(0, 2, 1), (0, 2, 1)], [(0, 2, 1), (1, 2, 2)],
            [(0, 2, 1), (1, 3, 1)], [(0, 3, 1)],
        ])

    def test_all_of_them(self):
        for k, number in ((1, 2), (2, 7), (3, 26)):
            self.assertEqual(templates(k), slow_templates(k))
            self.assertEqual(len(templates(k)), number)

    def test_each_is_one(self):
        for k in (1, 2, 3):
            told = templates(k)
            self.assertIs(type(told), list)
            for place, template in enumerate(told):
                self.assertIs(type(template), list)
                self.assertTrue(all(type(lift) is tuple and len(lift) == 3 for lift in template))
                self.assertEqual(template, sorted(template))
                self.assertEqual((min(lift[0] for lift in template), crossings_of(template)), (0, k))
                self.assertTrue(all(j > i and w > 0 and (j - i, w) != (1, 1) for i, j, w in template))
                for number in range(1, length_of(template)):
                    self.assertTrue(any(i < number < j for i, j, w in template))
                if place:
                    self.assertLess(told[place - 1], template)

    def test_refused(self):
        for k in NOT_WHOLE + FAR_OFF + [-3, -2, -1, 0, 4, 5, 6]:
            with self.assertRaises(NoBound) as taken:
                templates(k)
            self.assertIs(type(taken.exception), NoBound)


class Standing(unittest.TestCase):
    def test_by_hand(self):
        for template, loads, least, numbers in BY_HAND:
            self.assertEqual([load(template, j) for j in range(1, len(loads) + 1)], loads)
            self.assertEqual(least_place(template), least)
            self.assertEqual([words_at(template, place) for place in range(1, len(numbers) + 1)], numbers, template)

    def test_load(self):
        for template in EVERY:
            for j in range(1, length_of(template) + 1):
                self.assertEqual(load(template, j), slow_load(template, j))

    def test_least_place(self):
        for template in EVERY:
            least = least_place(template)
            self.assertGreaterEqual(least, 1)
            for place in range(1, 31):
                self.assertEqual(stands(template, place), place >= least, (template, place))

    def test_least_place_and_length(self):
        for template in EVERY:
            self.assertLessEqual(least_place(template) + length_of(template), 2 * crossings_of(template) + 1)

    def test_words_one_by_one(self):
        compared = 0
        for template in EVERY:
            for place in range(1, 21):
                if stands(template, place) and len(all_lifts(template, place)) + length_of(template) - 1 <= 8:
                    self.assertEqual(words_at(template, place), len(words(template, place)), (template, place))
                    compared += 1
        self.assertGreater(compared, 50)

    def test_words_at_each_place(self):
        for template in EVERY:
            for place in range(1, 21):
                told = words_at(template, place)
                self.assertEqual(told, slow_words_at(template, place), (template, place))
                self.assertEqual(told > 0, place >= least_place(template))

    def test_handed_in_stays(self):
        for template in EVERY:
            handed = list(template)
            load(handed, 1), least_place(handed), words_at(handed, 5), words_at(handed, 1)
            self.assertEqual(handed, template)

    def test_handed_in_may_be_changed_behind_the_call(self):
        template = [(0, 2, 1)]
        self.assertEqual((words_at(template, 2), least_place(template), load(template, 1)), (5, 1, 1))
        template[0] = (0, 1, 2)
        self.assertEqual((words_at(template, 2), least_place(template), load(template, 1)), (1, 2, 2))


class CountByTemplates(unittest.TestCase):
    def test_known(self):
        known = [
            [1] * 12,
            [0, 3, 12, 27, 48, 75, 108, 147, 192, 243, 300, 363],
            [0, 0, 21, 225, 882, 2370, 5175, 9891, 17220, 27972, 43065, 63525],
            [0, 0, 15, 675, 7915, 41310, 145383, 404185, 959115, 2029980, 3939295, 7139823],
        ]
        for k in range(4):
            self.assertEqual([count_by_templates(d, k) for d in range(1, 13)], known[k])

    def test_sum(self):
        slow = SlowCount()
        for k in range(4):
            for d in range(1, 13):
                self.assertEqual(count_by_templates(d, k), slow.count(d, k), (d, k))

    def test_agrees_with_the_other_counts(self):
        for k in range(4):
            for d in range(1, 6):
                self.assertEqual(count_by_templates(d, k), count_by_floors(d, k))
                self.assertEqual(count_by_templates(d, k), by_ends(d, k, [], [d]))
        for d, k in NARROW_PAIRS:
            self.assertEqual(count_by_templates(d, k), count_by_ways(d, k))

    def test_pairs_beyond(self):
        for d in range(-3, 17):
            for k in range(-3, 8):
                if not (1 <= d <= 12 and 0 <= k <= 3):
                    with self.assertRaises(NoBound) as taken:
                        count_by_templates(d, k)
                    self.assertIs(type(taken.exception), NoBound)

    def test_other_things(self):
        for thing in NOT_WHOLE + FAR_OFF:
            for d, k in ((thing, 0), (1, thing), (12, thing), (thing, thing), (thing, None), ("", thing), (0, thing)):
                with self.assertRaises(NoBound):
                    count_by_templates(d, k)


class WhoseListsTheyAre(unittest.TestCase):
    def test_told_lists_are_the_askers_own(self):
        for k in (1, 2, 3):
            first = templates(k)
            kept = copy.deepcopy(first)
            for place, template in enumerate(first):
                template.clear()
                self.assertEqual(first[place + 1:], kept[place + 1:])
            self.assertEqual(templates(k), kept)
            first.clear()
            first.append("changed")
            self.assertEqual(templates(k), kept)
            self.assertEqual(count_by_templates(3, k), [12, 21, 15][k - 1])


if __name__ == "__main__":
    unittest.main()
