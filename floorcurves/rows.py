"""Rows of ends: lists that tell at place w - 1 how many ends there are of weight w."""

from floorcurves.bounds import is_whole
from floorcurves.errors import NoEnds


def is_row(thing):
    if not isinstance(thing, list):
        return False
    for number in thing:
        if not is_whole(number) or number < 0:
            return False
    return not thing or thing[-1] > 0


def row_weight(row):
    return sum([(place + 1) * number for place, number in enumerate(row)])


def need_rows(d, held, free):
    if not is_row(held) or not is_row(free):
        raise NoEnds("a row of ends is a list of whole numbers from 0 on, the last of them not 0")
    if row_weight(held) + row_weight(free) != d:
        raise NoEnds("the held ends and the free ones don't weigh as much as the degree")


def weights_of(row):
    found = []
    for place, number in enumerate(row):
        found.extend([place + 1] * number)
    return found
