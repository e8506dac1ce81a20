"""The count by ends: one end held or taken away after the other, down to degree 1."""

from floorcurves.bounds import need_wide
from floorcurves.choosing import choose
from floorcurves.rows import need_rows, row_weight
from floorcurves.series import product_of, with_more


def filled_up(row, length):
    # Rows of one length are told apart by their numbers alone.
    return tuple(row + [0] * (length - len(row)))


def rows_within(row):
    found = [()]
    for number in row:
        longer = []
        for begun in found:
            longer.extend([begun + (here,) for here in range(number + 1)])
        found = longer
    return found


def rows_beyond(row, weight, first):
    # Those of this weight that have more than the row from the first place on alone, so that each comes once.
    missing = weight - row_weight(row)
    if missing == 0:
        return [row]
    found = []
    for place in range(first, min(len(row), missing)):
        found.extend(rows_beyond(with_more(row, place, 1), weight, place))
    return found


def choices(row, chosen):
    product = 1
    for number, part in zip(row, chosen):
        product *= choose(number, part)
    return product


def weights_gained(row, fuller):
    found = []
    for place, number in enumerate(row):
        found.extend([place + 1] * (fuller[place] - number))
    return found


def with_one_held(d, k, held, free):
    found = []
    for place, number in enumerate(free):
        if number > 0:
            lesser = (d, k, with_more(held, place, 1), with_more(free, place, -1))
            found.append((1, [place + 1], lesser))
    return found


def with_one_degree_fewer(d, k, held, free):
    found = []
    for kept in rows_within(held):
        for freed in rows_beyond(free, d - 1 - row_weight(kept), 0):
            lesser = (d - 1, k + sum(freed) - sum(free) - d + 1, kept, freed)
            found.append((choices(held, kept) * choices(freed, free), weights_gained(free, freed), lesser))
    return found


def summands(asked):
    # Each is a tuple: a number, weights, and what is asked with fewer free ends or of a lesser degree; these three are
    # multiplied together.
    d = asked[0]
    k = asked[1]
    held = asked[2]
    free = asked[3]
    return with_one_held(d, k, held, free) + with_one_degree_fewer(d, k, held, free)


def counted(asked, known):
    if asked[1] < 0:
        return 0
    if asked[0] == 1:
        return 1 if asked[1] == 0 else 0
    if asked not in known:
        total = 0
        for number, weights, lesser in summands(asked):
            total += number * product_of(weights) * counted(lesser, known)
        known[asked] = total
    return known[asked]


def asked_of(d, k, held, free):
    need_wide(d, k)
    need_rows(d, held, free)
    return (d, k, filled_up(held, d), filled_up(free, d))


def by_ends(d, k, held, free):
    return counted(asked_of(d, k, held, free), {})
