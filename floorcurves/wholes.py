"""Wholes: the counts of those that hang together, reckoned out of all counts, and all counts out of them."""

from floorcurves.bounds import need_between, need_wide
from floorcurves.choosing import choose
from floorcurves.ends import by_ends


def points_through(d, k):
    return d * (d + 3) // 2 - k


def count_row(d, k):
    return (d, points_through(d, k), by_ends(d, k, [], [d]))


def rows_up_to(d):
    # No drawing of degree e has more than e (e - 1) / 2 crossings.
    found = []
    for e in range(1, d + 1):
        for k in range(e * (e - 1) // 2 + 1):
            found.append(count_row(e, k))
    return found


def by_degree(table, greatest):
    found = {}
    for d in range(1, greatest + 1):
        found[d] = {}
    for d, s, number in table:
        if d <= greatest:
            found[d][s] = number
    return found


def as_table(numbers):
    found = []
    for d in numbers:
        for s in numbers[d]:
            if numbers[d][s] != 0:
                found.append((d, s, numbers[d][s]))
    return sorted(found)


def add_products(total, wholes, counts, sign):
    for r in wholes:
        for rest in counts:
            s = r + rest
            product = wholes[r] * counts[rest] * choose(s - 1, r - 1)
            total[s] = total.get(s, 0) + sign * product


def wholes_by_degree(counts):
    # The count of no degree is 1 at no points alone: by it each degree's wholes stand in the sum by themselves.
    wholes = {}
    for d in counts:
        wholes[d] = dict(counts[d])
        for e in range(1, d):
            add_products(wholes[d], wholes[e], counts[d - e], -1)
    return wholes


def counts_by_degree(wholes):
    counts = {}
    for d in wholes:
        counts[d] = dict(wholes[d])
        for e in range(1, d):
            add_products(counts[d], wholes[e], counts[d - e], 1)
    return counts


def table_of_counts(d):
    need_between(d, 1, 4)
    return as_table(by_degree(rows_up_to(d), d))


def wholes_of(table):
    greatest = max([row[0] for row in table], default=0)
    return as_table(wholes_by_degree(by_degree(table, greatest)))


def counts_of(table, greatest):
    need_between(greatest, 1, 4)
    return as_table(counts_by_degree(by_degree(table, greatest)))


def reckoned_whole(d, k):
    need_wide(d, k)
    s = points_through(d, k)
    if s < 1:
        return 0
    rows = rows_up_to(d - 1) + [count_row(d, k)]
    return wholes_by_degree(by_degree(rows, d))[d].get(s, 0)
