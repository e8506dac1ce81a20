"""Polynomials: tuples (tops, bottom) of a list of whole numbers and a whole number, in lowest terms."""

from floorcurves.errors import NoNumber
from floorcurves.series import product_by_place, sum_by_place, without_last_noughts


def common_divisor(one, other):
    greater = abs(one)
    lesser = abs(other)
    while lesser != 0:
        rest = greater % lesser
        greater = lesser
        lesser = rest
    return greater


def lowering(tops, bottom):
    # It bears the sign of bottom, so that bottom divided by it is from 1 on.
    divisor = abs(bottom)
    for top in tops:
        divisor = common_divisor(divisor, top)
    return divisor if bottom > 0 else -divisor


def poly(tops, bottom):
    if bottom == 0:
        raise NoNumber("the bottom of a polynomial is 0")
    kept = without_last_noughts(tops)
    divisor = lowering(kept, bottom)
    return ([top // divisor for top in kept], bottom // divisor)


def plus(one, other):
    widened = [top * other[1] for top in one[0]]
    other_widened = [top * one[1] for top in other[0]]
    return poly(sum_by_place(widened, other_widened), one[1] * other[1])


def times(one, other):
    return poly(product_by_place(one[0], other[0]), one[1] * other[1])


def value(one, at):
    total = 0
    for top in reversed(one[0]):
        total = total * at + top
    divisor = lowering([total], one[1])
    return (total // divisor, one[1] // divisor)


def through(start, values):
    # The differences of the i-th row belong to the polynomial "letter less start, choose i".
    total = poly([], 1)
    choosing = poly([1], 1)
    differences = list(values)
    taken = 0
    while differences:
        total = plus(total, times(choosing, poly([differences[0]], 1)))
        choosing = times(choosing, poly([-start - taken, 1], taken + 1))
        differences = [behind - ahead for ahead, behind in zip(differences, differences[1:])]
        taken += 1
    return total
