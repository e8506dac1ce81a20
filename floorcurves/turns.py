"""Steps of a way towards an edge: the first turn to a side, and the ways that come of it."""

from floorcurves.triangle import corner, is_point

# The signs of the corners at which a way turns so.
LEFT = 1
RIGHT = -1


def first_turn(way, side):
    for place in range(1, len(way) - 1):
        if corner(way[place - 1], way[place], way[place + 1]) * side > 0:
            return place
    return None


def steps(d, way, side):
    # Each step is a tuple: the piece that is cut, and the way that comes of it.
    place = first_turn(way, side)
    if place is None:
        return []
    a = way[place - 1]
    b = way[place]
    c = way[place + 1]
    found = [((a, b, c), way[:place] + way[place + 1:])]
    facing = (a[0] + c[0] - b[0], a[1] + c[1] - b[1])
    if is_point(d, facing):
        found.append(((a, b, c, facing), way[:place] + [facing] + way[place + 1:]))
    return found


def piece_worth(piece):
    if len(piece) == 3:
        return abs(corner(piece[0], piece[1], piece[2]))
    return 1
