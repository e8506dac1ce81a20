"""The whole counts without holes, told by splitting a degree in two."""

from floorcurves.bounds import need_between
from floorcurves.choosing import choose


def split_in_two(d, lesser):
    # lesser tells at place e the count of degree e.
    total = 0
    for e in range(1, d):
        f = d - e
        choices = f * choose(3 * d - 4, 3 * e - 2) - e * choose(3 * d - 4, 3 * e - 1)
        total += lesser[e] * lesser[f] * e * e * f * choices
    return total


def without_holes(d):
    need_between(d, 1, 8)
    counts = [0, 1]
    for degree in range(2, d + 1):
        counts.append(split_in_two(degree, counts))
    return counts[d]
