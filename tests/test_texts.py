import random
import re
import unittest

from floorcurves.degrees import polynomial_of
from floorcurves.errors import NoText
from floorcurves.floors import drawings
from floorcurves.shaded import shade_by_floors
from floorcurves.texts import read_drawing, read_from_nought, read_whole, show_drawing, show_poly, show_shade

WIDE_PAIRS = [(d, k) for d in (1, 2, 3, 4) for k in range(7)] + [(5, 0), (5, 1), (5, 2), (5, 3)]

DRAWINGS = [
    ([], "none"), ([(1, 3, 1)], "1-3"), ([(2, 3, 2)], "2-3x2"), ([(1, 3, 1), (2, 3, 2)], "1-3 2-3x2"),
    ([(1, 2, 1), (1, 2, 1)], "1-2 1-2"), ([(8, 9, 60)], "8-9x60"), ([(1, 9, 10)], "1-9x10"),
    ([(1, 2, 1), (1, 2, 2), (1, 2, 10), (1, 3, 1), (2, 3, 1)], "1-2 1-2x2 1-2x10 1-3 2-3"),
]
POLYNOMIALS = [
    (([], 1), "0"), (([1], 1), "1"), (([-7], 1), "-7"), (([0, 1], 1), "0 1"), (([3, -6, 3], 1), "3 -6 3"), (([1], 2), "1 over 2"),
    (([-66, 81, 12, -36, 9], 2), "-66 81 12 -36 9 over 2"), (([0, 0, -1], 10 ** 30), "0 0 -1 over 1" + "0" * 30),
    (([-(10 ** 59)], 3), "-1" + "0" * 59 + " over 3"),
]
SHADES = [
    ((0, []), "0"), ((0, [1]), "0: 1"), ((-2, [1, 0, 10, 0, 1]), "-2: 1 0 10 0 1"), ((3, [-1, 0, 5]), "3: -1 0 5"),
    ((-200, [-(10 ** 59)]), "-200: -1" + "0" * 59), ((0, [3]), "0: 3"),
]

NOT_DRAWINGS = [
    "", " ", "  ", "none ", " none", "None", "NONE", "nonee", "non", "none none", "none 1-2", "1-2 none", "0", "1", "-", "x",
    "1-", "-2", "1-x", "-x", "1x2", "12", "1 2", "1-2-3", "1--2", "--", "1-2x", "1-2x2x2", "1-2xx2", "1-2x2x", "x2", "1-x2",
    " 1-2", "1-2 ", "1-2  1-3", "  1-2", "1-2\t1-3", "1-2\n", "\n1-2", "1-2\n1-3", "1- 2", "1 -2", "1 - 2", "1-2 x2", "1-2x 2",
    "1-2\u00a01-3", "1-2\u20031-3", "1-2,1-3", "1-2;1-3", "1-2, 1-3", "1-2.",
    "01-2", "1-02", "1-2x02", "1-2x002", "00-1", "1-2x1", "1-2x01", "1-3x1 2-3", "1-2x0", "1-2x00", "1-2x61", "1-2x70", "1-2x99",
    "1-2x100", "1-2x600", "1-2x1000", "0-1", "0-2", "0-0", "1-10", "9-10", "1-11", "10-11", "10-2", "1-99", "1-1", "2-2", "9-9",
    "2-1", "9-1", "3-2x2", "1-2x-2", "1-2x-1", "-1-2", "1--2", "1-2 -1-3",
    "2-3 1-2", "1-3 1-2", "1-2x2 1-2", "1-2x3 1-2x2", "1-2x10 1-2x2", "1-2 2-3 1-3", "1-2 2-3 2-3x2 2-3",
    "+1-2", "1-+2", "1-2x+2", "1+2", "1-2X2", "1-2*2", "1\u20132", "1\u22122", "1-2\u00d72", "1_-2", "1-2x1_0", "a-b", "1-b",
    "\u00b9-2", "1-\u00b2", "1-2x\u00b2", "\u0661-\u0662", "1-2x\u0663", "\uff11-\uff12", "1-2x\uff12", "\u2460-2", "1-2x\u0661\u0660",
    "1-2x2.0", "1-2x2e0", "0x1-2", "1-0x2", "(1, 2, 1)", "[(1, 2, 1)]", "1-2 over 2", "1-2: 3", "1-2x6 0", "1-2\x00", "1-2\x0b", "1-2\x1f",
    "1-2\x85", "1-2\u2028", "\ufeff1-2", "1-2x\u00bd", "1-2" + " " * 190, "1" * 200, "-" * 200, " " * 200, "x" * 200,
]

LIFT = re.compile(r"([1-9])-([1-9])(?:x([2-9]|[1-5][0-9]|60))?\Z")


def slow_read(text):
    """A drawing, or None where the text is none."""
    if text == "none":
        return []
    lifts = []
    for word in text.split(" "):
        found = LIFT.match(word)
        if not found or found[1] >= found[2]:
            return None
        lifts.append((int(found[1]), int(found[2]), int(found[3] or "1")))
    return lifts if lifts == sorted(lifts) else None


class Shown(unittest.TestCase):
    def test_drawings(self):
        for drawing, text in DRAWINGS:
            self.assertEqual(show_drawing(drawing), text)
            self.assertEqual(read_drawing(text), drawing)

    def test_polynomials(self):
        for one, text in POLYNOMIALS:
            self.assertEqual(show_poly(one), text)
        self.assertEqual(show_poly(polynomial_of(3)), "1050 -829 -458 423 9 -54 9 over 2")

    def test_shades(self):
        for one, text in SHADES:
            self.assertEqual(show_shade(one), text)
        self.assertEqual(show_shade(shade_by_floors(4, 4)), "-2: 45 0 576 0 45")

    def test_handed_in_stays(self):
        for show, known in ((show_drawing, DRAWINGS), (show_poly, POLYNOMIALS), (show_shade, SHADES)):
            for one, text in known:
                kept = repr(one)
                show(one)
                self.assertEqual(repr(one), kept)


class Read(unittest.TestCase):
    def test_each_drawing(self):
        for d, k in WIDE_PAIRS:
            for drawing in drawings(d, k):
                told = read_drawing(show_drawing(drawing))
                self.assertEqual(told, drawing)
                self.assertTrue(type(told) is list and all(type(lift) is tuple for lift in told))

    def test_each_lift(self):
        for i in range(0, 12):
            for j in range(0, 12):
                for w in range(0, 63):
                    text = f"{i}-{j}" if w == 1 else f"{i}-{j}x{w}"
                    if 1 <= i < j <= 9 and 1 <= w <= 60:
                        self.assertEqual(read_drawing(text), [(i, j, w)])
                    else:
                        with self.assertRaises(NoText):
                            read_drawing(text)

    def test_twenty_lifts(self):
        drawing = sorted([(i, 9, 60 - i) for i in range(1, 9)] + [(1, 2, 1)] * 6 + [(3, 4, 7)] * 6)
        self.assertEqual(len(drawing), 20)
        self.assertEqual(read_drawing(show_drawing(drawing)), drawing)

    def test_chance(self):
        chance = random.Random(39)
        read = 0
        for again in range(4000):
            lifts = []
            for number in range(chance.randint(1, 4)):
                i, j = sorted(chance.sample(range(1, 10), 2))
                lifts.append((i, j, chance.choice((1, 1, 1, 2, 3, 10, 59, 60))))
            text = show_drawing(sorted(lifts))
            for change in range(chance.randint(0, 2)):
                place = chance.randrange(len(text) + 1)
                text = text[:place] + chance.choice(["", "", "0", "1", "2", "9", "-", "x", " ", "+"]) + text[place + chance.randint(0, 1):]
            told = slow_read(text)
            if told is None:
                with self.assertRaises(NoText, msg=text):
                    read_drawing(text)
            else:
                self.assertEqual(read_drawing(text), told)
                self.assertEqual(show_drawing(told), text)
                read += 1
        self.assertTrue(1000 < read < 3000, read)

    def test_other_texts(self):
        for text in NOT_DRAWINGS:
            self.assertIsNone(slow_read(text), text)
            with self.assertRaises(NoText, msg=repr(text)) as taken:
                read_drawing(text)
            self.assertIs(type(taken.exception), NoText)

    def test_each_sign(self):
        for number in list(range(0, 0x3100)) + list(range(0xfe00, 0x10000)) + list(range(0x1d7ce, 0x1d800)):
            sign = chr(number)
            for text in (sign, sign + "1-2", "1-2" + sign, "1" + sign + "2", "1-2x" + sign, "1-2" + sign + "1-3", "1-2x1" + sign):
                told = slow_read(text)
                if told is None:
                    with self.assertRaises(NoText, msg=repr(text)):
                        read_drawing(text)
                else:
                    self.assertEqual(read_drawing(text), told)

    def test_told_lists_are_the_askers_own(self):
        for drawing, text in DRAWINGS:
            first = read_drawing(text)
            first.clear()
            first.append("changed")
            self.assertEqual(read_drawing(text), drawing)


class Numbers(unittest.TestCase):
    def test_written(self):
        for number in list(range(-1100, 1100)):
            for most in (1, 2, 3):
                if len(str(abs(number))) <= most:
                    self.assertEqual(read_whole(str(number), most), number)
                else:
                    with self.assertRaises(NoText):
                        read_whole(str(number), most)
                if number >= 0 and len(str(number)) <= most:
                    self.assertEqual(read_from_nought(str(number), most), number)
                else:
                    with self.assertRaises(NoText):
                        read_from_nought(str(number), most)

    def test_not_written(self):
        for word in ("", "-", "--1", "-0", "00", "01", "-01", "+1", "1.", "1 ", " 1", "1_0", "a", "\u0661", "\u00b2", "1-", "- 1", "x"):
            for read in (read_whole, read_from_nought):
                with self.assertRaises(NoText):
                    read(word, 3)


if __name__ == "__main__":
    unittest.main()
