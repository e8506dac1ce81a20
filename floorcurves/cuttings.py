"""Cuttings of a way: the pieces between it and the edges, what they are worth, and how they hang together."""

from floorcurves.bounds import need_between, need_narrow
from floorcurves.joining import gathered, how_many_sets
from floorcurves.triangle import lower_edge, upper_edge
from floorcurves.turns import LEFT, RIGHT, piece_worth, steps
from floorcurves.ways import ways


def manners(d, way, side, edge):
    if way == edge:
        return [[]]
    found = []
    for piece, further in steps(d, way, side):
        for rest in manners(d, further, side, edge):
            found.append([piece] + rest)
    return found


def cuttings(d, way):
    need_between(d, 1, 4)
    # Most ways can't come to the lower edge: of these nothing is looked for above.
    under = manners(d, way, RIGHT, lower_edge(d))
    over = manners(d, way, LEFT, upper_edge(d)) if under else []
    found = []
    for pieces in over:
        for others in under:
            found.append(pieces + others)
    return sorted(found)


def cut_worth(cutting):
    product = 1
    for piece in cutting:
        product *= piece_worth(piece)
    return product


def sides(piece):
    # From the last point round to it again, so that in a slant those two places apart face one another.
    found = []
    ahead = piece[-1]
    for point in piece:
        found.append((min(ahead, point), max(ahead, point)))
        ahead = point
    return found


def threads(cutting):
    known = {}
    facing = []
    for piece in cutting:
        around = sides(piece)
        for side in around:
            known[side] = True
        if len(piece) == 4:
            facing.append((around[0], around[2]))
            facing.append((around[1], around[3]))
    return gathered(list(known), facing)


def corner_pieces(cutting):
    return [piece for piece in cutting if len(piece) == 3]


def joined(cutting):
    # A thread has two ends, so it joins two corner pieces at most: there is one pair for each thread that joins.
    thread_of = threads(cutting)
    first = {}
    pairs = []
    for piece in corner_pieces(cutting):
        for side in sides(piece):
            thread = thread_of[side]
            if thread in first:
                pairs.append((first[thread], piece))
            else:
                first[thread] = piece
    return pairs


def cut_parts(cutting):
    return how_many_sets(corner_pieces(cutting), joined(cutting))


def cut_holes(cutting):
    return len(joined(cutting)) - len(corner_pieces(cutting)) + cut_parts(cutting)


def whole_by_ways(d, k):
    need_narrow(d, k)
    total = 0
    for way in ways(d, k):
        for cutting in cuttings(d, way):
            if cut_parts(cutting) == 1:
                total += cut_worth(cutting)
    return total
