import unittest

from floorcurves.degrees import holds_from, polynomial_of
from floorcurves.desk import Desk
from floorcurves.ends import by_ends
from floorcurves.errors import CurveError, NoBound, NoDrawing, NoEnds, NoText
from floorcurves.floors import drawings
from floorcurves.marks import count_by_floors, how_many, whole_by_floors
from floorcurves.shaded import shade_by_floors
from floorcurves.splitting import without_holes
from floorcurves.texts import show_drawing, show_poly, show_shade
from floorcurves.ways import count_by_ways
from test_ends import pairs_of_rows

NARROW_PAIRS = [(d, k) for d in (1, 2, 3) for k in range(7)] + [(4, 0), (4, 1), (4, 2)]
WIDE_PAIRS = [(d, k) for d in (1, 2, 3, 4) for k in range(7)] + [(5, 0), (5, 1), (5, 2), (5, 3)]
PAIRED = ("count", "whole", "ways", "shade", "drawings")

ANSWERS = [
    ("count 4 3", "675"), ("count 1 0", "1"), ("count 1 6", "0"), ("whole 4 3", "620"), ("whole 2 1", "0"), ("free 1", "1"),
    ("free 4", "620"), ("free 8", "13525751027392"), ("ways 4 2", "225"), ("ways 3 6", "0"), ("ends 3 1 - 1,1", "36"),
    ("ends 2 1 2 -", "2"), ("ends 2 0 - 0,1", "2"), ("ends 2 0 0,1 -", "1"), ("ends 1 0 1 -", "1"), ("ends 5 0 0,1 1,1", "4"),
    ("shade 3 1", "-2: 1 0 10 0 1"), ("shade 2 1", "0: 3"), ("shade 1 1", "0"), ("polynomial 0", "1; from 1"),
    ("polynomial 1", "3 -6 3; from 1"), ("polynomial 2", "-66 81 12 -36 9 over 2; from 1"),
    ("polynomial 3", "1050 -829 -458 423 9 -54 9 over 2; from 3"), ("drawings 3 2", "3: 1-2; 1-3; 2-3"),
    ("drawings 1 0", "1: none"), ("drawings 2 0", "1: 1-2"), ("drawings 1 1", "0:"), ("drawings 3 6", "0:"),
    ("drawings 3 1", "3: 1-2 2-3; 1-2 2-3x2; 1-3 2-3"), ("markings 5 : none", "945"), ("markings 1 : none", "1"),
    ("markings 3 : 1-2 2-3x2", "1"), ("markings 3 : 1-2 2-3", "5"), ("markings 2 : 1-2", "1"), ("markings 3 : 1-3 2-3", "3"),
]

NO_FORMS = [
    "", " ", "  ", "count", "count ", "count 3", "count 3 ", "count 3 1 ", " count 3 1", "count  3 1", "count 3  1", "count 3 1 1",
    "count\t3 1", "count 3\t1", "count 3 1\n", "count\n3 1", "Count 3 1", "COUNT 3 1", "counts 3 1", "coun 3 1", "count3 1", "3 1", "count, 3, 1",
    "count 3,1", "count: 3 1", "count D K", "count 3 x", "count x 1", "count 03 1", "count 3 01", "count 00 1", "count 3 00", "count -0 1",
    "count 3 -0", "count -03 1", "count --3 1", "count +3 1", "count 3 +1", "count 3.0 1", "count 3 1.", "count - 1", "count 3 -",
    "count 1000 1", "count 3 1000", "count -1000 1", "count 3 -1000", "count 0001 1", "count 9999 0", "count 3 1_0", "count \u0663 1",
    "count 3 \u00b9", "count \uff13 1", "count three one", "count none none", "count 3 1 -", "count 3 - 1", "count True 0", "count 3\u00a01",
    "whole", "whole 3", "whole 3 1 0", "whole 3 1 ", "free", "free ", "free 3 1", "free 3 ", " free 3", "free  3", "free 03", "free x",
    "free -", "free 1000", "free -0", "ways", "ways 3", "ways 3 1 1", "ways 3 1  ", "shade", "shade 3", "shade 3 1 1", "shade 3 1 - 3",
    "polynomial", "polynomial ", "polynomial 1 1", "polynomial 01", "polynomial -", "polynomial x", "polynomial 1000", "polynomials 1",
    "drawings", "drawings 3", "drawings 3 1 1", "drawings 3 : 1", "drawings 3 1:", "drawing 3 1",
    "ends", "ends 3", "ends 3 1", "ends 3 1 -", "ends 3 1 - 3 -", "ends 3 1 - 3 ", "ends 3 1  3", "ends 3 1 - ", "ends 3 1 3", "ends 3 1 -  3",
    "ends 3 1 -- 3", "ends 3 1 - -3", "ends 3 1 - 1,-1", "ends 3 1 - 1,,1", "ends 3 1 - ,1", "ends 3 1 - 1,", "ends 3 1 , 3", "ends 3 1 -,- 3",
    "ends 3 1 -,3 -", "ends 3 1 - 1, 1", "ends 3 1 - 1;1", "ends 3 1 - [3]", "ends 3 1 - 03", "ends 3 1 - 1,01", "ends 3 1 - 00", "ends 3 1 - -0",
    "ends 3 1 - 1,-0", "ends 3 1 - +3", "ends 3 1 - 1000", "ends 3 1 1000 3", "ends 3 1 - 1,1000", "ends 3 1 - 0003", "ends 3 1 - x", "ends 3 1 x 3",
    "ends 3 1 none 3", "ends 3 1 - none", "ends 3 1 - \u0663", "ends 3 1 - 1.1", "ends 03 1 - 3", "ends 3 01 - 3", "ends x 1 - 3", "ends 1000 1 - 3",
    "ends - - - -", "ends 3 1 : 3",
    "markings", "markings 3", "markings 3 :", "markings 3 : ", "markings 3 none", "markings 3 1-2", "markings : none", "markings 3: none",
    "markings 3 :none", "markings 3:none", "markings 3  : none", "markings 3 :  none", "markings 3 : none ", " markings 3 : none",
    "markings  3 : none", "markings 3 : : none", "markings 3 3 : none", "markings 3 ; none", "markings 3 : None", "markings 3 : none none",
    "markings 3 : none 1-2", "markings 3 : 1-2 none", "markings 3 : 1-2  2-3", "markings 3 : 1-2 2-3 ", "markings 3 : 2-3 1-2", "markings 3 : 1-2x1",
    "markings 3 : 1-2x0", "markings 3 : 1-2x61", "markings 3 : 01-2", "markings 3 : 2-1", "markings 3 : 0-1", "markings 3 : 1-10", "markings 3 : 1-2;",
    "markings 03 : none", "markings -0 : none", "markings x : none", "markings 1000 : none", "markings 3 : 1-2,2-3", "markings 3 : 3", "markings 3 : -",
    "markings 3 1 : none", "marking 3 : none", "markings 3 1",
    "rows ", " rows", "rows 1", "rows rows", "row", "Rows", "rows:", "rows\n", "rows  ", "help", "none", "0", "-", ":", "\n", "1-2", "say rows",
    "paper 3 1", "by_ends 3 1 - 3", "templates 1", "e", "dk", "d", "k", "count dk", "__init__", "answered",
]

# Rows that have one of the forms, and are refused behind that.
BEYOND = [
    "count 0 0", "count -1 0", "count 1 -1", "count 1 7", "count 4 7", "count 5 4", "count 6 0", "count 999 999", "count -999 -999", "count 5 6",
    "whole 0 0", "whole 5 4", "whole 6 0", "whole 3 -1", "free 0", "free 9", "free -1", "free 999", "free -999", "ways 4 3", "ways 5 0",
    "ways 0 0", "ways 3 7", "ways 3 -1", "shade 5 4", "shade 6 0", "shade 0 1", "shade 1 -1", "polynomial 4", "polynomial -1", "polynomial 999",
    "drawings 5 4", "drawings 6 0", "drawings 0 0", "drawings 4 7", "ends 0 0 - -", "ends 6 0 - 6", "ends 5 4 - 5", "ends 3 -1 - 3",
    "ends 3 7 - 3", "ends -1 0 - -", "ends 6 0 0 0", "ends 0 0 1 1", "ends 999 0 - 999", "ends 5 4 - 4", "ends 5 4 0 1,0",
    "markings 0 : none", "markings 6 : none", "markings -1 : none", "markings 999 : 1-2", "markings 6 : 1-2x60", "markings 0 : 1-2", "markings 6 : 8-9",
    "markings -5 : 8-9x60",
]
NO_ROWS_OF_ENDS = [
    "ends 3 1 - -", "ends 3 1 - 2", "ends 3 1 - 4", "ends 3 1 1 3", "ends 3 1 3 3", "ends 3 1 - 0,1", "ends 3 1 - 999", "ends 3 1 - 3,0", "ends 3 1 0 3",
    "ends 3 1 3 0", "ends 3 1 - 0", "ends 3 1 3,0 -", "ends 3 1 - 1,1,0", "ends 3 1 0,0 3", "ends 1 0 - -", "ends 5 3 - 1,1,1", "ends 1 6 0 1",
    "ends 3 1 - 0,0,0,0,0,0,0,0,0,0,0,0,0,0,0,0,0,0,0,1", "ends 3 1 0 0",
]
NO_DRAWINGS = [
    "markings 1 : 1-2", "markings 2 : 1-3", "markings 3 : 1-4", "markings 3 : 1-2 3-4", "markings 5 : 1-6", "markings 5 : 8-9x60", "markings 1 : 1-2x60",
    "markings 2 : 1-2x2", "markings 3 : 2-3x2", "markings 3 : 1-2 1-3", "markings 5 : 4-5x2", "markings 4 : 1-4x60", "markings 2 : 1-2 1-2",
    "markings 2 : 1-2 2-3", "markings 3 : 8-9",
]


class Answers(unittest.TestCase):
    def test_known(self):
        desk = Desk()
        for place, (row, answer) in enumerate(ANSWERS):
            self.assertEqual(desk.say(row), answer, row)
            self.assertEqual(Desk().say(row), answer)
        self.assertEqual(desk.say("rows"), str(len(ANSWERS)))

    def test_pairs(self):
        desk = Desk()
        for d, k in WIDE_PAIRS:
            self.assertEqual(desk.say(f"count {d} {k}"), str(count_by_floors(d, k)))
            self.assertEqual(desk.say(f"whole {d} {k}"), str(whole_by_floors(d, k)))
            self.assertEqual(desk.say(f"shade {d} {k}"), show_shade(shade_by_floors(d, k)))
            every = drawings(d, k)
            told = f"{len(every)}: " + "; ".join(show_drawing(drawing) for drawing in every) if every else "0:"
            self.assertEqual(desk.say(f"drawings {d} {k}"), told)
        for d, k in NARROW_PAIRS:
            self.assertEqual(desk.say(f"ways {d} {k}"), str(count_by_ways(d, k)))

    def test_one_number(self):
        desk = Desk()
        for d in range(1, 9):
            self.assertEqual(desk.say(f"free {d}"), str(without_holes(d)))
        for k in range(4):
            self.assertEqual(desk.say(f"polynomial {k}"), show_poly(polynomial_of(k)) + "; from " + str(holds_from(k)))

    def test_ends(self):
        desk = Desk()
        for d, k in [(1, 0), (1, 3), (2, 0), (2, 1), (3, 0), (3, 2), (4, 1), (4, 6), (5, 3)]:
            for held, free in pairs_of_rows(d):
                words = [",".join(map(str, row)) or "-" for row in (held, free)]
                self.assertEqual(desk.say(f"ends {d} {k} {words[0]} {words[1]}"), str(by_ends(d, k, held, free)))

    def test_markings(self):
        desk = Desk()
        for d, k in WIDE_PAIRS:
            for drawing in drawings(d, k):
                self.assertEqual(desk.say(f"markings {d} : {show_drawing(drawing)}"), str(how_many(d, drawing)))

    def test_answers_are_texts(self):
        for row, answer in ANSWERS + [("rows", "0")]:
            self.assertIs(type(Desk().say(row)), str)


class Answered(unittest.TestCase):
    def test_rows(self):
        desk = Desk()
        self.assertEqual([desk.say("rows") for again in range(12)], [str(number) for number in range(12)])

    def test_each_form_counts(self):
        desk = Desk()
        for place, (row, answer) in enumerate(ANSWERS):
            self.assertEqual(desk.say("rows"), str(2 * place))
            self.assertEqual(desk.say(row), answer)

    def test_what_is_refused_is_not_counted(self):
        desk = Desk()
        for row in NO_FORMS + BEYOND + NO_ROWS_OF_ENDS + NO_DRAWINGS:
            with self.assertRaises(CurveError):
                desk.say(row)
        self.assertEqual(desk.say("rows"), "0")
        self.assertEqual(desk.say("count 3 1"), "12")
        for row in ("count", "count 9 9", "ends 3 1 - -", "markings 2 : 1-2x2"):
            with self.assertRaises(CurveError):
                desk.say(row)
        self.assertEqual(desk.say("rows"), "2")

    def test_several_desks(self):
        first, second, third = Desk(), Desk(), Desk()
        first.say("count 3 1")
        second.say("free 3")
        first.say("free 3")
        self.assertEqual([desk.say("rows") for desk in (first, second, third)], ["2", "1", "0"])
        self.assertEqual([desk.say("rows") for desk in (third, second, first, Desk())], ["1", "2", "3", "0"])


class Refused(unittest.TestCase):
    def refused(self, error, row):
        with self.assertRaises(error, msg=repr(row)) as taken:
            Desk().say(row)
        self.assertIs(type(taken.exception), error, row)

    def test_no_form(self):
        for row in NO_FORMS:
            self.refused(NoText, row)

    def test_beyond_the_bounds(self):
        for row in BEYOND:
            self.refused(NoBound, row)

    def test_each_pair_beyond(self):
        for name in PAIRED:
            known = NARROW_PAIRS if name == "ways" else WIDE_PAIRS
            for d in list(range(-2, 8)) + [-999, 999]:
                for k in list(range(-2, 10)) + [-999, 999]:
                    if (d, k) not in known:
                        self.refused(NoBound, f"{name} {d} {k}")

    def test_ends(self):
        for row in NO_ROWS_OF_ENDS:
            self.refused(NoEnds, row)

    def test_drawings(self):
        for row in NO_DRAWINGS:
            self.refused(NoDrawing, row)

    def test_text_is_ahead(self):
        for row in ("count 9 01", "count 01 9", "count 0 0 0", "free 9 9", "ends 9 9 - 01", "ends 9 9 -", "ends 9 9 -1 3", "ends 3 1 9 -1",
                    "markings 9 : 2-1", "markings 9 : ", "markings 2 : 1-2x2 1-2", "markings 2 : 1-3 1-2", "polynomial 9 9", "ways 9 9 "):
            self.refused(NoText, row)

    def test_each_row_with_one_sign_changed(self):
        forms = ("count 3 1", "free 3", "ends 3 1 - 1,1", "markings 3 : 1-2 2-3x2", "rows", "polynomial 1")
        for row in forms:
            for place in range(len(row) + 1):
                self.refused(NoText, row[:place] + "\t" + row[place:])
                self.refused(NoText, row[:place] + "  " + row[place:])
                self.refused(NoText, row[:place] + "+" + row[place:])
                if row[place:place + 1] == " ":
                    self.refused(NoText, row[:place] + " " + row[place:])
                    self.refused(NoText, row[:place] + "\u00a0" + row[place + 1:])
                    self.refused(NoText, row[:place] + row[place + 1:])


if __name__ == "__main__":
    unittest.main()
