"""The count by ends told by drawings: lifts between floors, free ends and held ones."""

from floorcurves.bounds import need_wide
from floorcurves.floors import drawings, ends_at, worth
from floorcurves.marks import how_many_orders
from floorcurves.rows import need_rows, weights_of
from floorcurves.series import product_of, with_more


def free_placings(d, room, weights, first):
    # Each is a tuple: the marks of the ends, and the room that they leave. Alike ends go to rising places, so that each
    # placing of them comes once.
    if not weights:
        return [([], room)]
    weight = weights[0]
    found = []
    for place in range(first, d):
        if room[place] >= weight:
            begin = place if weights[1:2] == [weight] else 0
            for marks, left in free_placings(d, with_more(room, place, -weight), weights[1:], begin):
                found.append(([(place + 1, d + 1, weight)] + marks, left))
    return found


def how_many_held(room, weights):
    # Held ends are numbered: two of one weight that change places make another drawing.
    if not weights:
        return 1
    total = 0
    for place, there in enumerate(room):
        if there >= weights[0]:
            total += how_many_held(with_more(room, place, -weights[0]), weights[1:])
    return total


def by_ended(d, k, held, free):
    need_wide(d, k)
    need_rows(d, held, free)
    held_weights = weights_of(held)
    free_weights = weights_of(free)
    total = 0
    # What lifts alone leave at the floors of a sound drawing is just what the ends of both sorts have to weigh there.
    for drawing in drawings(d, k):
        for marks, room in free_placings(d, tuple(ends_at(d, drawing)), free_weights, 0):
            number = how_many_held(room, held_weights) * how_many_orders(d, drawing + marks)
            total += worth(drawing) * product_of(free_weights) * number
    return total
