import copy
import random
import unittest
from math import comb

from floorcurves.cuttings import whole_by_ways
from floorcurves.ends import by_ends
from floorcurves.errors import NoBound
from floorcurves.marks import count_by_floors, whole_by_floors
from floorcurves.ways import count_by_ways
from floorcurves.wholes import counts_of, reckoned_whole, table_of_counts, wholes_of
from strange import FAR_OFF, NOT_WHOLE, Unwritable

NARROW_PAIRS = [(d, k) for d in (1, 2, 3) for k in range(7)] + [(4, 0), (4, 1), (4, 2)]
WIDE_PAIRS = [(d, k) for d in (1, 2, 3, 4) for k in range(7)] + [(5, 0), (5, 1), (5, 2), (5, 3)]

COUNTS = [
    (1, 2, 1), (2, 4, 3), (2, 5, 1), (3, 6, 15), (3, 7, 21), (3, 8, 12), (3, 9, 1), (4, 8, 105), (4, 9, 378),
    (4, 10, 666), (4, 11, 675), (4, 12, 225), (4, 13, 27), (4, 14, 1),
]
WHOLES = [(1, 2, 1), (2, 5, 1), (3, 8, 12), (3, 9, 1), (4, 11, 620), (4, 12, 225), (4, 13, 27), (4, 14, 1)]


def up_to(table, greatest):
    return [row for row in table if row[0] <= greatest]


def told_sum(wholes, counts, d, s):
    """The sum of point 26, place by place."""
    total = 0
    for e in range(1, d + 1):
        for r in range(1, s + 1):
            rest = 1 if (d - e, s - r) == (0, 0) else counts.get((d - e, s - r), 0)
            total += wholes.get((e, r), 0) * rest * comb(s - 1, r - 1)
    return total


def as_dict(table):
    return {(d, s): number for d, s, number in table}


def random_tables():
    chance = random.Random(27)
    places = [(d, s) for d in range(1, 5) for s in range(1, 21)]
    for rows in list(range(12)) + [20, 40, 60]:
        for greatest in (1, 9, 10 ** 12 - 1):
            chosen = sorted(chance.sample(places, rows))
            signs = [chance.choice((-1, 1)) for place in chosen]
            yield [(d, s, sign * chance.randint(1, greatest)) for (d, s), sign in zip(chosen, signs)]


class Tables(unittest.TestCase):
    def is_table(self, table):
        self.assertIs(type(table), list)
        self.assertEqual(table, sorted(table))
        self.assertEqual(len({row[:2] for row in table}), len(table))
        for row in table:
            self.assertTrue(type(row) is tuple and len(row) == 3 and row[2] != 0)

    def test_table_of_counts(self):
        for d in range(1, 5):
            self.assertEqual(table_of_counts(d), up_to(COUNTS, d))
            self.is_table(table_of_counts(d))

    def test_table_has_all_counts(self):
        table = as_dict(table_of_counts(4))
        for d in range(1, 5):
            for k in range(7):
                s = d * (d + 3) // 2 - k
                self.assertEqual(table.get((d, s), 0), count_by_floors(d, k), (d, k))

    def test_known_wholes(self):
        for d in range(1, 5):
            self.assertEqual(wholes_of(up_to(COUNTS, d)), up_to(WHOLES, d))
            self.assertEqual(counts_of(up_to(WHOLES, d), d), up_to(COUNTS, d))

    def test_by_hand(self):
        self.assertEqual(counts_of([(1, 2, 1)], 4), [(1, 2, 1), (2, 4, 3), (3, 6, 15), (4, 8, 105)])
        self.assertEqual(wholes_of([(1, 2, 1), (2, 4, 3)]), [(1, 2, 1)])
        self.assertEqual(wholes_of([(1, 2, 1), (2, 5, 1)]), [(1, 2, 1), (2, 4, -3), (2, 5, 1)])
        self.assertEqual(wholes_of([(1, 1, 2), (1, 3, 5)]), [(1, 1, 2), (1, 3, 5)])
        self.assertEqual(wholes_of([(1, 1, 2), (1, 3, 5), (2, 20, 1)]), [
            (1, 1, 2), (1, 3, 5), (2, 2, -4), (2, 4, -40), (2, 6, -250), (2, 20, 1),
        ])
        self.assertEqual(counts_of([(1, 1, -2)], 3), [(1, 1, -2), (2, 2, 4), (3, 3, -8)])
        self.assertEqual(wholes_of([(3, 7, 4)]), [(3, 7, 4)])
        self.assertEqual(counts_of([(3, 7, 4)], 4), [(3, 7, 4)])

    def test_empty_table(self):
        self.assertEqual(wholes_of([]), [])
        for greatest in range(1, 5):
            self.assertEqual(counts_of([], greatest), [])

    def test_great_s(self):
        self.assertEqual(counts_of([(1, 20, 1)], 2), [(1, 20, 1), (2, 40, comb(39, 19))])
        self.assertEqual(wholes_of([(1, 20, 1), (2, 1, 1)]), [(1, 20, 1), (2, 1, 1), (2, 40, -comb(39, 19))])

    def test_greatest_other_than_the_tables(self):
        for greatest in range(1, 5):
            self.assertEqual(counts_of(WHOLES, greatest), up_to(COUNTS, greatest))
        table = [(2, 3, 7), (4, 1, -1)]
        self.assertEqual(counts_of(table, 1), [])
        self.assertEqual(counts_of(table, 3), [(2, 3, 7)])
        self.assertEqual(counts_of(table, 4), [(2, 3, 7), (4, 1, -1), (4, 6, 490)])

    def test_sums_place_by_place(self):
        for table in random_tables():
            wholes = wholes_of(table)
            self.is_table(wholes)
            for d in range(1, max((row[0] for row in table), default=0) + 1):
                for s in range(1, 86):
                    told = told_sum(as_dict(wholes), as_dict(table), d, s)
                    self.assertEqual(told, as_dict(table).get((d, s), 0), (d, s))
            counts = counts_of(table, 4)
            self.is_table(counts)
            for d in range(1, 5):
                for s in range(1, 86):
                    told = told_sum(as_dict(table), as_dict(counts), d, s)
                    self.assertEqual(told, as_dict(counts).get((d, s), 0), (d, s))

    def test_there_and_back(self):
        for table in random_tables():
            greatest = max((row[0] for row in table), default=1)
            self.assertEqual(counts_of(wholes_of(table), greatest), table)
            for d in range(greatest, 5):
                counts = counts_of(table, d)
                self.assertEqual(wholes_of(counts), table)


class ReckonedWhole(unittest.TestCase):
    def test_agrees_with_floors_and_ways(self):
        for d, k in WIDE_PAIRS:
            self.assertEqual(reckoned_whole(d, k), whole_by_floors(d, k), (d, k))
        for d, k in NARROW_PAIRS:
            self.assertEqual(reckoned_whole(d, k), whole_by_ways(d, k), (d, k))

    def test_known(self):
        self.assertEqual([reckoned_whole(d, (d - 1) * (d - 2) // 2) for d in (1, 2, 3, 4)], [1, 1, 12, 620])
        self.assertEqual([reckoned_whole(5, k) for k in range(4)], [1, 48, 882, 7915])

    def test_no_points(self):
        for d, k in ((1, 2), (1, 3), (1, 4), (1, 5), (1, 6), (2, 5), (2, 6)):
            self.assertLess(d * (d + 3) // 2 - k, 1)
            self.assertEqual(reckoned_whole(d, k), 0)


class OneCount(unittest.TestCase):
    def test_all_counts_are_one(self):
        for d, k in WIDE_PAIRS:
            told = count_by_floors(d, k)
            self.assertEqual(by_ends(d, k, [], [d]), told)
            if (d, k) in NARROW_PAIRS:
                self.assertEqual(count_by_ways(d, k), told)
            if d < 5:
                s = d * (d + 3) // 2 - k
                self.assertEqual(as_dict(table_of_counts(d)).get((d, s), 0), told)


class Refused(unittest.TestCase):
    def test_greatest_degree(self):
        for thing in NOT_WHOLE + FAR_OFF + [-4, -1, 0, 5, 6]:
            with self.assertRaises(NoBound):
                table_of_counts(thing)
            for table in ([], list(WHOLES), None, 3, "table", [None], Unwritable()):
                with self.assertRaises(NoBound):
                    counts_of(table, thing)

    def test_pairs_beyond(self):
        for d in range(-2, 8):
            for k in range(-2, 10):
                if (d, k) not in WIDE_PAIRS:
                    with self.assertRaises(NoBound):
                        reckoned_whole(d, k)

    def test_other_things(self):
        for thing in NOT_WHOLE + FAR_OFF:
            for d, k in ((thing, 0), (1, thing), (5, thing), (thing, thing), (thing, None), ("", thing), (0, thing)):
                with self.assertRaises(NoBound):
                    reckoned_whole(d, k)


class WhoseListsTheyAre(unittest.TestCase):
    def test_handed_in_stays(self):
        for table in random_tables():
            handed = copy.deepcopy(table)
            wholes_of(handed)
            counts_of(handed, 3)
            self.assertEqual(handed, table)

    def test_handed_in_may_be_changed_behind_the_call(self):
        table = list(COUNTS)
        wholes = wholes_of(table)
        table.clear()
        self.assertEqual(wholes, WHOLES)
        self.assertEqual(wholes_of(table), [])
        counts = counts_of(wholes, 4)
        wholes.clear()
        self.assertEqual(counts, COUNTS)

    def test_told_lists_are_the_askers_own(self):
        for ask, kept in (
            (lambda: table_of_counts(4), COUNTS), (lambda: wholes_of(COUNTS), WHOLES),
            (lambda: counts_of(WHOLES, 4), COUNTS), (lambda: wholes_of([]), []), (lambda: wholes_of([(1, 2, 1)]), [(1, 2, 1)]),
        ):
            first = ask()
            self.assertEqual(first, kept)
            first.clear()
            first.append("changed")
            self.assertEqual(ask(), kept)


if __name__ == "__main__":
    unittest.main()
