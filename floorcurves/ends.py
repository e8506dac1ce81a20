"""The count by ends: one end held or taken away after the other, down to degree 1."""

from floorcurves.bounds import need_wide
from floorcurves.choosing import choose
from floorcurves.rows import need_rows, row_weight
from floorcurves.series import with_more


def filled_up(row, length):
    # Rows of one length are told apart by their numbers alone.
    return tuple(row + [0] * (length - len(row)))


def rows_within(row):
    found = [()]
    for number in row:
        longer = []
        for begun in found:
            longer.extend([begun + (here,) for here in range(number + 1)])
        found = longer
    return found


def rows_beyond(row, weight, first):
    # Those of this weight that have more than the row from the first place on alone, so that each comes once.
    missing = weight - row_weight(row)
    if missing == 0:
        return [row]
    found = []
    for place in range(first, min(len(row), missing)):
        found.extend(rows_beyond(with_more(row, place, 1), weight, place))
    return found


def choices(row, chosen):
    product = 1
    for number, part in zip(row, chosen):
        product *= choose(number, part)
    return product


def weights_gained(row, fuller):
    product = 1
    for place, number in enumerate(row):
        for again in range(fuller[place] - number):
            product *= place + 1
    return product


def with_one_held(d, k, held, free, known):
    total = 0
    for place, number in enumerate(free):
        if number > 0:
            more = with_more(held, place, 1)
            fewer = with_more(free, place, -1)
            total += (place + 1) * counted(d, k, more, fewer, known)
    return total


def with_one_degree_fewer(d, k, held, free, known):
    total = 0
    for kept in rows_within(held):
        for freed in rows_beyond(free, d - 1 - row_weight(kept), 0):
            crossings = k + sum(freed) - sum(free) - d + 1
            factor = choices(held, kept) * choices(freed, free) * weights_gained(free, freed)
            total += factor * counted(d - 1, crossings, kept, freed, known)
    return total


def counted(d, k, held, free, known):
    if k < 0:
        return 0
    if d == 1:
        return 1 if k == 0 else 0
    key = (d, k, held, free)
    if key not in known:
        known[key] = with_one_held(d, k, held, free, known) + with_one_degree_fewer(d, k, held, free, known)
    return known[key]


def by_ends(d, k, held, free):
    need_wide(d, k)
    need_rows(d, held, free)
    return counted(d, k, filled_up(held, d), filled_up(free, d), {})
