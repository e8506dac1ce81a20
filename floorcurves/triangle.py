"""The points of a degree, the corner of three points, and the two edges."""

from floorcurves.bounds import need_degree


def points(d):
    need_degree(d)
    found = []
    for x in range(d + 1):
        for y in range(d - x, -1, -1):
            found.append((x, y))
    return found


def is_point(d, point):
    return point[0] >= 0 and point[1] >= 0 and point[0] + point[1] <= d


def corner(a, b, c):
    return (b[0] - a[0]) * (c[1] - b[1]) - (b[1] - a[1]) * (c[0] - b[0])


def upper_edge(d):
    need_degree(d)
    return [(x, d - x) for x in range(d + 1)]


def lower_edge(d):
    need_degree(d)
    down = [(0, d - step) for step in range(d + 1)]
    return down + [(x, 0) for x in range(1, d + 1)]
