"""The desk: it is told rows and answers each with a text."""

from floorcurves.bounds import need_degree
from floorcurves.degrees import holds_from, polynomial_of
from floorcurves.ends import by_ends
from floorcurves.errors import NoDrawing, NoText
from floorcurves.floors import drawings
from floorcurves.marks import count_by_floors, how_many, whole_by_floors
from floorcurves.shaded import shade_by_floors
from floorcurves.splitting import without_holes
from floorcurves.texts import read_drawing, read_from_nought, read_whole, show_drawing, show_poly, show_shade
from floorcurves.ways import count_by_ways

# What stands behind the first word: d or k for a number, e for a row of ends.
FORMS = {
    "count": "dk", "whole": "dk", "free": "d", "ways": "dk", "ends": "dkee", "shade": "dk", "polynomial": "k",
    "drawings": "dk", "rows": "",
}
FIGURES_AT_MOST = 3


def read_number(word):
    return read_whole(word, FIGURES_AT_MOST)


def read_ends(word):
    if word == "-":
        return []
    return [read_from_nought(number, FIGURES_AT_MOST) for number in word.split(",")]


def read_thing(sort, word):
    return read_ends(word) if sort == "e" else read_number(word)


def read_markings(words):
    if words[2:3] != [":"]:
        raise NoText("no colon behind the degree")
    return [read_number(words[1]), read_drawing(" ".join(words[3:]))]


def read_row(row):
    words = row.split(" ")
    name = words[0]
    if name == "markings":
        return (name, read_markings(words))
    if name not in FORMS or len(words) != len(FORMS[name]) + 1:
        raise NoText("a row of none of the forms")
    return (name, [read_thing(sort, word) for sort, word in zip(FORMS[name], words[1:])])


def polynomial_told(k):
    polynomial = show_poly(polynomial_of(k))
    degree = holds_from(k)
    return f"{polynomial}; from {degree}"


def drawings_told(d, k):
    found = drawings(d, k)
    number = len(found)
    written = "; ".join([show_drawing(drawing) for drawing in found])
    return f"{number}: {written}" if found else "0:"


def markings_told(d, drawing):
    need_degree(d)
    if any([lift[1] > d for lift in drawing]):
        raise NoDrawing("a lift comes to a floor above the degree")
    return str(how_many(d, drawing))


def told_of_pair(name, d, k):
    if name == "count":
        return str(count_by_floors(d, k))
    if name == "whole":
        return str(whole_by_floors(d, k))
    if name == "ways":
        return str(count_by_ways(d, k))
    if name == "shade":
        return show_shade(shade_by_floors(d, k))
    return drawings_told(d, k)


def told(name, things):
    if name == "free":
        return str(without_holes(things[0]))
    if name == "polynomial":
        return polynomial_told(things[0])
    if name == "markings":
        return markings_told(things[0], things[1])
    if name == "ends":
        return str(by_ends(things[0], things[1], things[2], things[3]))
    return told_of_pair(name, things[0], things[1])


class Desk:
    def __init__(self):
        self.answered = 0

    def say(self, row):
        asked = read_row(row)
        answer = str(self.answered) if asked[0] == "rows" else told(asked[0], asked[1])
        self.answered += 1
        return answer
