"""Ways along the points of a degree, what they are worth above and below, and the count by ways."""

from floorcurves.bounds import need_between, need_narrow
from floorcurves.triangle import lower_edge, points, upper_edge
from floorcurves.turns import LEFT, RIGHT, piece_worth, steps


def leaving_out(row, k):
    if k > len(row):
        return []
    if k == 0:
        return [list(row)]
    with_first = [[row[0]] + rest for rest in leaving_out(row[1:], k)]
    return with_first + leaving_out(row[1:], k - 1)


def ways(d, k):
    need_narrow(d, k)
    row = points(d)
    return sorted([[row[0]] + between + [row[-1]] for between in leaving_out(row[1:-1], k)])


def worth(d, way, side, known):
    # Many steps lead to one and the same way: what is known of it is not reckoned again.
    key = tuple(way)
    if key not in known:
        total = 0
        for piece, further in steps(d, way, side):
            total += piece_worth(piece) * worth(d, further, side, known)
        known[key] = total
    return known[key]


def known_above(d):
    return {tuple(upper_edge(d)): 1}


def known_below(d):
    return {tuple(lower_edge(d)): 1}


def above(d, way):
    need_between(d, 1, 4)
    return worth(d, way, LEFT, known_above(d))


def below(d, way):
    need_between(d, 1, 4)
    return worth(d, way, RIGHT, known_below(d))


def count_by_ways(d, k):
    need_narrow(d, k)
    over = known_above(d)
    under = known_below(d)
    total = 0
    for way in ways(d, k):
        total += worth(d, way, LEFT, over) * worth(d, way, RIGHT, under)
    return total
