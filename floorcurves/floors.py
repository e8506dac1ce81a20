"""Floors in a row with weighted lifts between: drawings, which of them are sound, and what is told of them."""

from floorcurves.bounds import need_degree, need_wide
from floorcurves.joining import how_many_sets


def ends_at(d, drawing):
    need_degree(d)
    ends = [1] * d
    for i, j, w in drawing:
        ends[i - 1] -= w
        ends[j - 1] += w
    return ends


def sound(d, drawing):
    return min(ends_at(d, drawing)) >= 0


def lost(lift):
    return (lift[1] - lift[0]) * lift[2] - 1


def lifts_from(d, floor, weight, spare):
    found = []
    for j in range(floor + 1, d + 1):
        for w in range(1, weight + 1):
            if lost((floor, j, w)) <= spare:
                found.append((floor, j, w))
    return found


def leaving(lifts, weight, spare):
    # Sorted lists of these lifts, each as often as one likes, that weigh and lose no more than told.
    found = [[]]
    for place, lift in enumerate(lifts):
        if lift[2] <= weight and lost(lift) <= spare:
            for rest in leaving(lifts[place:], weight - lift[2], spare - lost(lift)):
                found.append([lift] + rest)
    return found


def with_floor(d, floor, drawing, spare):
    there = ends_at(d, drawing)[floor - 1]
    found = []
    for lifts in leaving(lifts_from(d, floor, there, spare), there, spare):
        ends = there - sum([lift[2] for lift in lifts])
        left = spare - sum([lost(lift) for lift in lifts]) - ends * (d - floor)
        if left >= 0:
            found.append((drawing + lifts, left))
    return found


def drawings(d, k):
    need_wide(d, k)
    # Between floor g and the next one lifts and ends weigh g together, in all d (d - 1) / 2. So the crossings are what
    # the lifts lose by being long or heavy, and what each end loses on its way to floor d.
    begun = [([], k)]
    for floor in range(1, d + 1):
        longer = []
        for drawing, spare in begun:
            longer.extend(with_floor(d, floor, drawing, spare))
        begun = longer
    return sorted([drawing for drawing, spare in begun if spare == 0])


def parts(d, drawing):
    need_degree(d)
    return how_many_sets(list(range(1, d + 1)), [(lift[0], lift[1]) for lift in drawing])


def holes(d, drawing):
    need_degree(d)
    return len(drawing) - d + parts(d, drawing)


def worth(drawing):
    product = 1
    for lift in drawing:
        product *= lift[2] ** 2
    return product
