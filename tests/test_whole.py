"""What the document promises over the whole program: one number, told in many ways."""

import copy
import unittest

from floorcurves.cuttings import cut_holes, cut_parts, cut_worth, cuttings, whole_by_ways
from floorcurves.degrees import holds_from, polynomial_of
from floorcurves.desk import Desk
from floorcurves.ended import by_ended
from floorcurves.ends import by_ends
from floorcurves.errors import CurveError, NoBound, NoDrawing, NoEnds, NoNumber, NoText
from floorcurves.floors import drawings, holes, parts, worth
from floorcurves.marks import count_by_floors, how_many, markings, whole_by_floors
from floorcurves.papers import paper, weighed
from floorcurves.polys import value
from floorcurves.shaded import shade_by_ends, shade_by_floors, shade_by_ways
from floorcurves.shades import at_one, turned
from floorcurves.splitting import without_holes
from floorcurves.templates import count_by_templates, templates
from floorcurves.triangle import lower_edge, points, upper_edge
from floorcurves.ways import count_by_ways, ways
from floorcurves.wholes import counts_of, reckoned_whole, table_of_counts, wholes_of

NARROW_PAIRS = [(d, k) for d in (1, 2, 3) for k in range(7)] + [(4, 0), (4, 1), (4, 2)]
WIDE_PAIRS = [(d, k) for d in (1, 2, 3, 4) for k in range(7)] + [(5, 0), (5, 1), (5, 2), (5, 3)]


class OneNumber(unittest.TestCase):
    def test_counts(self):
        for d, k in WIDE_PAIRS:
            told = [count_by_floors(d, k), by_ends(d, k, [], [d]), by_ended(d, k, [], [d])]
            if (d, k) in NARROW_PAIRS:
                told.append(count_by_ways(d, k))
            if k <= 3:
                told.append(count_by_templates(d, k))
            self.assertEqual(told, told[:1] * len(told), (d, k))

    def test_shades(self):
        for d, k in WIDE_PAIRS:
            told = [shade_by_floors(d, k), shade_by_ends(d, k, [], [d])]
            if (d, k) in NARROW_PAIRS:
                told.append(shade_by_ways(d, k))
            for one in told:
                self.assertEqual(one, told[0])
                self.assertEqual(at_one(one), count_by_floors(d, k))
                self.assertEqual(turned(one), one)
                self.assertGreaterEqual(min(one[1], default=0), 0)

    def test_wholes(self):
        for d, k in WIDE_PAIRS:
            told = [whole_by_floors(d, k), reckoned_whole(d, k)]
            if (d, k) in NARROW_PAIRS:
                told.append(whole_by_ways(d, k))
            self.assertEqual(told, told[:1] * len(told), (d, k))

    def test_without_holes(self):
        for d, k in WIDE_PAIRS:
            every = [one for one in drawings(d, k) if parts(d, one) == 1 and holes(d, one) == 0]
            free = sum(worth(one) * how_many(d, one) for one in every)
            self.assertEqual(free, without_holes(d) if k == (d - 1) * (d - 2) // 2 else 0, (d, k))

    def test_without_holes_by_ways(self):
        for d, k in NARROW_PAIRS:
            every = [one for way in ways(d, k) for one in cuttings(d, way)]
            free = sum(cut_worth(one) for one in every if cut_parts(one) == 1 and cut_holes(one) == 0)
            self.assertEqual(free, without_holes(d) if k == (d - 1) * (d - 2) // 2 else 0, (d, k))

    def test_polynomials(self):
        for k in range(4):
            held = [value(polynomial_of(k), d) == (count_by_templates(d, k), 1) for d in range(1, 13)]
            self.assertTrue(all(held[holds_from(k) - 1:]))
            self.assertFalse(holds_from(k) > 1 and held[holds_from(k) - 2])

    def test_papers(self):
        for d, k in WIDE_PAIRS:
            if d < 5 or k < 2:
                told = paper(d, k)
                self.assertEqual(weighed(d, k, told), count_by_floors(d, k))
                once = {(tuple(drawing), tuple(marking)) for drawing, marking in told}
                self.assertEqual(len(once), len(told))
                self.assertEqual(len(told), sum(how_many(d, one) for one in drawings(d, k)))

    def test_desk(self):
        desk = Desk()
        for d, k in NARROW_PAIRS:
            told = [desk.say(f"{name} {d} {k}") for name in ("count", "ways")] + [desk.say(f"ends {d} {k} - {d}")]
            self.assertEqual(told, [str(count_by_floors(d, k))] * 3)


class Refusals(unittest.TestCase):
    def test_none_under_another(self):
        refusals = (NoNumber, NoBound, NoDrawing, NoEnds, NoText)
        self.assertEqual(CurveError.__bases__, (ValueError,))
        for refusal in refusals:
            self.assertEqual(refusal.__bases__, (CurveError,))


def spoil(thing):
    """Empties every list, within others too."""
    if isinstance(thing, (list, tuple)):
        for inner in list(thing):
            spoil(inner)
    if isinstance(thing, list):
        thing.clear()


def lists_within(thing):
    found = [thing] if isinstance(thing, list) else []
    if isinstance(thing, (list, tuple)):
        for inner in thing:
            found.extend(lists_within(inner))
    return found


class WhoseListsTheyAre(unittest.TestCase):
    def test_no_list_is_told_twice(self):
        asks = [
            lambda: points(3), lambda: upper_edge(3), lambda: lower_edge(3), lambda: ways(3, 2), lambda: cuttings(3, lower_edge(3)),
            lambda: drawings(4, 3), lambda: markings(3, [(1, 2, 1)]), lambda: table_of_counts(4), lambda: wholes_of(table_of_counts(3)),
            lambda: counts_of([(1, 2, 1)], 4), lambda: templates(3), lambda: polynomial_of(3), lambda: shade_by_ways(3, 1),
            lambda: shade_by_floors(4, 2), lambda: shade_by_ends(4, 2, [1], [1, 1]), lambda: paper(3, 2), lambda: paper(4, 2),
        ]
        for ask in asks:
            first = ask()
            kept = copy.deepcopy(first)
            inner = lists_within(first)
            self.assertGreater(len(inner), 0)
            self.assertEqual(len({id(one) for one in inner}), len(inner))
            spoil(first)
            self.assertEqual(ask(), kept)


if __name__ == "__main__":
    unittest.main()
