import copy
import random
import unittest
from itertools import combinations_with_replacement

from floorcurves.errors import NoBound
from floorcurves.floors import drawings, ends_at, sound, worth
from floorcurves.marks import count_by_floors, markings
from floorcurves.papers import paper, weighed
from strange import FAR_OFF, NOT_WHOLE

WIDE_PAIRS = [(d, k) for d in (1, 2, 3, 4) for k in range(7)] + [(5, 0), (5, 1), (5, 2), (5, 3)]
TOLD_PAIRS = [(d, k) for d in (1, 2, 3, 4) for k in range(7)] + [(5, 0), (5, 1)]


def squares(drawing):
    product = 1
    for i, j, w in drawing:
        product *= w * w
    return product


def slow_right(d, k, drawing, marking):
    """Whether it is a marked drawing, asked of each condition by itself."""
    if drawing not in drawings(d, k):
        return False
    marks = [(floor, floor, 0) for floor in range(1, d + 1)] + drawing
    for floor, number in enumerate(ends_at(d, drawing), start=1):
        marks += [(floor, d + 1, 1)] * number
    if sorted(marking) != sorted(marks):
        return False
    floors = [mark[0] for mark in marking if mark[0] == mark[1]]
    if floors != list(range(1, d + 1)):
        return False
    at = {floor: marking.index((floor, floor, 0)) for floor in floors}
    at[d + 1] = len(marking)
    return all(at[i] < place < at[j] for place, (i, j, w) in enumerate(marking) if i != j)


def slow_weighed(d, k, entries):
    if any(not slow_right(d, k, *entry) for entry in entries):
        return None
    if any(entry in entries[:place] for place, entry in enumerate(entries)):
        return None
    return sum(squares(drawing) for drawing, marking in entries)


def with_entry(entries, place, drawing, marking):
    return entries[:place] + [(drawing, marking)] + entries[place + 1:]


class Paper(unittest.TestCase):
    def test_by_hand(self):
        self.assertEqual(paper(1, 0), [([], [(1, 1, 0), (1, 2, 1)])])
        self.assertEqual(paper(2, 0), [([(1, 2, 1)], [(1, 1, 0), (1, 2, 1), (2, 2, 0), (2, 3, 1), (2, 3, 1)])])
        self.assertEqual(paper(2, 1), [
            ([], [(1, 1, 0), (1, 3, 1), (2, 2, 0), (2, 3, 1)]),
            ([], [(1, 1, 0), (2, 2, 0), (1, 3, 1), (2, 3, 1)]),
            ([], [(1, 1, 0), (2, 2, 0), (2, 3, 1), (1, 3, 1)]),
        ])
        self.assertEqual((paper(1, 1), paper(2, 2), paper(3, 4)), ([], [], []))

    def test_each_entry_once_and_all_of_them(self):
        for d, k in TOLD_PAIRS:
            told = paper(d, k)
            self.assertIs(type(told), list)
            self.assertEqual(told, sorted(told))
            self.assertEqual(told, [(one, marking) for one in drawings(d, k) for marking in markings(d, one)])
            for place, entry in enumerate(told):
                self.assertTrue(type(entry) is tuple and len(entry) == 2)
                drawing, marking = entry
                self.assertTrue(type(drawing) is list and type(marking) is list)
                self.assertTrue(sound(d, drawing) and len(drawing) == d * (d - 1) // 2 - k)
                self.assertTrue(slow_right(d, k, drawing, marking))
                if place:
                    self.assertLess(told[place - 1], entry)

    def test_weighs_the_count(self):
        for d, k in TOLD_PAIRS:
            self.assertEqual(weighed(d, k, paper(d, k)), count_by_floors(d, k), (d, k))

    def test_refused(self):
        for d in range(-2, 8):
            for k in range(-2, 10):
                if (d, k) not in TOLD_PAIRS:
                    with self.assertRaises(NoBound) as taken:
                        paper(d, k)
                    self.assertIs(type(taken.exception), NoBound)

    def test_other_things(self):
        for thing in NOT_WHOLE + FAR_OFF:
            for d, k in ((thing, 0), (1, thing), (5, thing), (thing, thing), (thing, None), ("", thing), (0, thing)):
                with self.assertRaises(NoBound):
                    paper(d, k)


class Weighed(unittest.TestCase):
    def test_empty(self):
        for d, k in WIDE_PAIRS:
            self.assertEqual(weighed(d, k, []), 0)
            self.assertIs(type(weighed(d, k, [])), int)

    def test_without_one_entry(self):
        for d, k in TOLD_PAIRS:
            told = paper(d, k)
            count = count_by_floors(d, k)
            for place in range(0, len(told), 1 + len(told) // 40):
                fewer = told[:place] + told[place + 1:]
                self.assertEqual(weighed(d, k, fewer), count - worth(told[place][0]), (d, k, place))

    def test_in_any_order(self):
        for d, k in ((2, 1), (3, 1), (3, 2), (4, 1), (5, 1)):
            told = paper(d, k)
            self.assertEqual(weighed(d, k, list(reversed(told))), count_by_floors(d, k))
            random.Random(d + k).shuffle(told)
            self.assertEqual(weighed(d, k, told), count_by_floors(d, k))

    def test_degree_5_beyond_the_papers(self):
        for k in (2, 3):
            entries = [(one, markings(5, one)[0]) for one in drawings(5, k)]
            self.assertEqual(weighed(5, k, entries), sum(squares(one) for one in drawings(5, k)))
            self.assertIsNone(weighed(5, k, entries + entries[-1:]))
        entries = [(one, marking) for one in drawings(5, 2) for marking in markings(5, one)]
        self.assertLessEqual(len(entries), 1000)
        self.assertEqual(weighed(5, 2, entries), 882)

    def test_an_entry_twice(self):
        for d, k in TOLD_PAIRS:
            told = paper(d, k)
            for place in range(0, len(told), 1 + len(told) // 20):
                self.assertIsNone(weighed(d, k, told + [told[place]]))
                self.assertIsNone(weighed(d, k, [copy.deepcopy(told[place])] + told))
                self.assertIsNone(weighed(d, k, [told[place], told[place]]))

    def test_markings_that_are_none(self):
        for d, k in ((1, 0), (2, 0), (2, 1), (3, 0), (3, 1), (3, 2), (3, 3), (4, 0), (4, 2), (5, 1)):
            told = paper(d, k)
            for place in range(0, len(told), 1 + len(told) // 12):
                drawing, marking = told[place]
                spoilt = [[], marking[:-1], marking[1:], marking + marking[-1:], marking + [(1, d + 1, 1)]]
                spoilt += [marking + [(d + 1, d + 1, 0)], [(0, 0, 0)] + marking, marking + [(1, 2, 7)]]
                spoilt += [[(i, j, 1) for i, j, w in marking], list(reversed(marking)), marking + marking]
                spoilt += [marking[:n] + marking[n + 1:] for n in range(len(marking))]
                spoilt += [marking[:n] + [marking[n]] + marking[n:] for n in range(len(marking))]
                for wrong in spoilt:
                    self.assertIsNone(weighed(d, k, [(drawing, wrong)]), (drawing, wrong))
                    self.assertIsNone(weighed(d, k, with_entry(told, place, drawing, wrong)), (drawing, wrong))

    def test_markings_in_another_order(self):
        both = {None: 0, 1: 0}
        for d, k in ((2, 0), (2, 1), (3, 0), (3, 1), (3, 2), (3, 3), (4, 1), (4, 6)):
            for drawing in drawings(d, k):
                marking = markings(d, drawing)[0]
                for n in range(len(marking)):
                    for m in range(n):
                        changed = list(marking)
                        changed[n], changed[m] = marking[m], marking[n]
                        told = weighed(d, k, [(drawing, changed)])
                        self.assertEqual(told, squares(drawing) if slow_right(d, k, drawing, changed) else None)
                        both[None if told is None else 1] += 1
        self.assertTrue(both[None] > 100 and both[1] > 20)

    def test_markings_of_another_drawing(self):
        for d, k in ((3, 1), (3, 2), (4, 1), (4, 5), (5, 1)):
            every = drawings(d, k)
            for one, other in zip(every, every[1:]):
                self.assertIsNone(weighed(d, k, [(one, markings(d, other)[0])]))
                self.assertIsNone(weighed(d, k, [(other, markings(d, one)[0])]))

    def test_drawings_not_sound(self):
        spoilt = [
            (2, 0, [(1, 2, 2)]), (2, 0, [(1, 2, 10 ** 59)]), (3, 1, [(1, 2, 1), (1, 3, 1)]), (3, 1, [(2, 3, 1), (2, 3, 1)]),
            (3, 2, [(2, 3, 2)]), (4, 5, [(3, 4, 2)]), (3, 0, [(1, 2, 1), (2, 3, 1), (2, 3, 2)]),
        ]
        for d, k, drawing in spoilt:
            for marking in ([], [(1, 1, 0)], [(floor, floor, 0) for floor in range(1, d + 1)] + drawing):
                self.assertIsNone(weighed(d, k, [(drawing, marking)]), drawing)

    def test_drawings_not_sorted(self):
        for d, k in ((3, 0), (3, 1), (4, 0), (4, 3), (5, 0)):
            for drawing in drawings(d, k):
                changed = list(reversed(drawing))
                told = weighed(d, k, [(changed, markings(d, drawing)[0])])
                self.assertEqual(told, squares(drawing) if changed == drawing else None)

    def test_drawings_of_another_number_of_lifts(self):
        for d, k in WIDE_PAIRS:
            for other in range(7):
                if other != k and (d, other) in WIDE_PAIRS:
                    for drawing in drawings(d, other)[:5]:
                        marking = markings(d, drawing)[0]
                        self.assertIsNone(weighed(d, k, [(drawing, marking)]), (d, k, drawing))

    def test_drawings_of_another_degree(self):
        for d, k in WIDE_PAIRS:
            for other, crossings in WIDE_PAIRS:
                if other != d:
                    for drawing in drawings(other, crossings)[:3]:
                        self.assertIsNone(weighed(d, k, [(drawing, markings(other, drawing)[0])]))

    def test_no_lifts_of_d(self):
        wrong = [
            (0, 1, 1), (0, 0, 0), (1, 1, 0), (1, 1, 1), (2, 1, 1), (2, 2, 0), (1, 3, 1), (2, 3, 1), (1, 2, 0), (1, 2, -1),
            (-1, 2, 1), (-2, -1, 1), (0, 2, 1), (3, 4, 1), (10 ** 59, 2, 1), (1, 10 ** 59, 1), (-(10 ** 59), 1, 1),
            (1, 2, -(10 ** 59)), (2, 1, -1), (-1, 0, 1), (1, 2, 3),
        ]
        for lift in wrong:
            for marking in ([], [lift], [(1, 1, 0), lift, (2, 2, 0), (2, 3, 1), (2, 3, 1)], [(1, 1, 0), (2, 2, 0), lift]):
                self.assertIsNone(weighed(2, 0, [([lift], marking)]), lift)
            for d, k in ((3, 0), (3, 1), (3, 2), (4, 4), (5, 3)):
                size = d * (d - 1) // 2 - k
                if lift not in ((1, 3, 1), (2, 3, 1), (3, 4, 1)) or lift[1] > d:
                    for drawing in drawings(d, k):
                        changed = sorted(drawing[1:] + [lift])
                        self.assertEqual(len(changed), size)
                        self.assertIsNone(weighed(d, k, [(changed, markings(d, drawing)[0])]), changed)

    def test_no_lifts_of_d_with_marks_that_would_fit(self):
        lifts = [(i, j, w) for i in range(-1, 4) for j in range(-1, 5) for w in (-2, -1, 0, 1, 2)]
        for lift in lifts:
            if lift != (1, 2, 1):
                for lower in range(4):
                    for upper in range(4):
                        rest = [(1, 1, 0)] + [(1, 3, 1)] * lower + [(2, 2, 0)] + [(2, 3, 1)] * upper
                        for place in range(len(rest) + 1):
                            marking = rest[:place] + [lift] + rest[place:]
                            self.assertIsNone(weighed(2, 0, [([lift], marking)]), marking)

    def test_each_list_of_few_lifts(self):
        lifts = [(i, j, w) for i in range(0, 4) for j in range(0, 5) for w in (0, 1, 2, 3)]
        for number in (0, 1, 2):
            for chosen in combinations_with_replacement(lifts, number):
                drawing = list(chosen)
                right = drawing in drawings(3, 3 - number)
                marking = markings(3, drawing)[0] if right else [(1, 1, 0), (2, 2, 0), (3, 3, 0)] + drawing
                told = weighed(3, 3 - number, [(drawing, marking)])
                self.assertEqual(told, squares(drawing) if right else None, drawing)

    def test_chance_spoils(self):
        chance = random.Random(38)
        outcomes = []
        for again in range(600):
            d, k = chance.choice([(2, 1), (3, 0), (3, 1), (3, 2), (3, 3), (4, 2), (4, 6)])
            whole = paper(d, k)
            entries = copy.deepcopy(chance.sample(whole, min(len(whole), chance.randint(1, 6))))
            for change in range(chance.randint(0, 2)):
                drawing, marking = chance.choice(entries)
                target = chance.choice([drawing, marking]) or marking
                place = chance.randrange(len(target)) if target else 0
                doing = chance.randrange(4)
                if doing == 0 and target:
                    i, j, w = target[place]
                    target[place] = (i + chance.randint(-1, 1), j + chance.randint(-1, 1), w + chance.randint(-1, 1))
                elif doing == 1 and target:
                    target.insert(chance.randrange(len(target)), target.pop(place))
                elif doing == 2 and target:
                    target.pop(place)
                else:
                    entries.append(copy.deepcopy(chance.choice(entries)))
            told = weighed(d, k, entries)
            self.assertEqual(told, slow_weighed(d, k, entries), (d, k, entries))
            outcomes.append(told is None)
        self.assertTrue(100 < sum(outcomes) < 500)

    def test_a_thousand_entries(self):
        entries = [(one, marking) for one in drawings(5, 3) for marking in markings(5, one)][:1000]
        self.assertEqual(len(entries), 1000)
        self.assertEqual(weighed(5, 3, entries), sum(squares(drawing) for drawing, marking in entries))
        self.assertIsNone(weighed(5, 3, entries[:999] + entries[:1]))

    def test_refused(self):
        for d in range(-2, 8):
            for k in range(-2, 10):
                for entries in ([], [([], [])], None):
                    if (d, k) not in WIDE_PAIRS:
                        with self.assertRaises(NoBound) as taken:
                            weighed(d, k, entries)
                        self.assertIs(type(taken.exception), NoBound)
        for thing in NOT_WHOLE + FAR_OFF:
            for d, k in ((thing, 0), (1, thing), (5, thing), (thing, thing), (thing, None), ("", thing), (0, thing)):
                with self.assertRaises(NoBound):
                    weighed(d, k, [])


class WhoseListsTheyAre(unittest.TestCase):
    def test_handed_in_stays(self):
        for d, k in TOLD_PAIRS:
            told = paper(d, k)
            handed = copy.deepcopy(told)
            weighed(d, k, handed)
            self.assertEqual(handed, told)
            spoilt = told + [([(2, 1, 0), (1, 2, 5)], [(3, 3, 0), (1, 1, 0)])]
            handed = copy.deepcopy(spoilt)
            weighed(d, k, handed)
            self.assertEqual(handed, spoilt)

    def test_handed_in_may_be_changed_behind_the_call(self):
        told = paper(3, 2)
        self.assertEqual(weighed(3, 2, told), 21)
        told.pop()
        self.assertEqual(weighed(3, 2, told), 20)
        told[0][1].pop()
        self.assertIsNone(weighed(3, 2, told))

    def test_told_lists_are_the_askers_own(self):
        for d, k in TOLD_PAIRS:
            first = paper(d, k)
            kept = copy.deepcopy(first)
            for place, (drawing, marking) in enumerate(first):
                drawing.clear()
                self.assertEqual(marking, kept[place][1])
                marking.clear()
                self.assertEqual(first[place + 1:][:2], kept[place + 1:][:2])
            self.assertEqual(paper(d, k), kept)
            first.clear()
            first.append("changed")
            self.assertEqual(paper(d, k), kept)
            self.assertEqual(weighed(d, k, kept), count_by_floors(d, k))


if __name__ == "__main__":
    unittest.main()
