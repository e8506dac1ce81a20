"""The counts with shades: stretches stand in the place of corners and weights."""

from floorcurves.bounds import need_narrow, need_wide
from floorcurves.ends import asked_of, summands
from floorcurves.floors import drawings
from floorcurves.marks import how_many
from floorcurves.shades import added, mixed, shade, stretch
from floorcurves.triangle import lower_edge, upper_edge
from floorcurves.turns import LEFT, RIGHT, piece_worth, steps
from floorcurves.ways import ways


def of_number(number):
    return shade(0, [number])


def stretched(weights):
    product = of_number(1)
    for weight in weights:
        product = mixed(product, stretch(weight))
    return product


def way_shade(d, way, side, known):
    key = tuple(way)
    if key not in known:
        total = of_number(0)
        for piece, further in steps(d, way, side):
            total = added(total, mixed(stretch(piece_worth(piece)), way_shade(d, further, side, known)))
        known[key] = total
    return known[key]


def shade_by_ways(d, k):
    need_narrow(d, k)
    over = {tuple(upper_edge(d)): of_number(1)}
    under = {tuple(lower_edge(d)): of_number(1)}
    total = of_number(0)
    for way in ways(d, k):
        total = added(total, mixed(way_shade(d, way, LEFT, over), way_shade(d, way, RIGHT, under)))
    return total


def shade_by_floors(d, k):
    need_wide(d, k)
    total = of_number(0)
    for drawing in drawings(d, k):
        weights = [lift[2] for lift in drawing]
        total = added(total, mixed(of_number(how_many(d, drawing)), stretched(weights + weights)))
    return total


def ends_shade(asked, known):
    if asked[0] == 1 or asked[1] < 0:
        return of_number(1 if asked[1] == 0 else 0)
    if asked not in known:
        total = of_number(0)
        for number, weights, lesser in summands(asked):
            factor = mixed(of_number(number), stretched(weights))
            total = added(total, mixed(factor, ends_shade(lesser, known)))
        known[asked] = total
    return known[asked]


def shade_by_ends(d, k, held, free):
    return ends_shade(asked_of(d, k, held, free), {})
