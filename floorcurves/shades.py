"""Shades: tuples (low, numbers), the number at place i belonging to the letter t to the power low + i."""

from floorcurves.series import product_by_place, sum_by_place, without_last_noughts


def shade(low, numbers):
    kept = without_last_noughts(numbers)
    if not kept:
        return (0, [])
    first = 0
    while kept[first] == 0:
        first += 1
    return (low + first, kept[first:])


def added(one, other):
    # Nought has a low too, but its low belongs to no number, so it must not lengthen the sum.
    if not one[1]:
        return shade(other[0], other[1])
    if not other[1]:
        return shade(one[0], one[1])
    low = min(one[0], other[0])
    return shade(low, sum_by_place([0] * (one[0] - low) + one[1], [0] * (other[0] - low) + other[1]))


def mixed(one, other):
    return shade(one[0] + other[0], product_by_place(one[1], other[1]))


def turned(one):
    return shade(1 - one[0] - len(one[1]), list(reversed(one[1])))


def at_one(one):
    return sum(one[1])


def stretch(w):
    return shade(1 - w, [1 - place % 2 for place in range(2 * w - 1)])
