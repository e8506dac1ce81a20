"""Templates: what of a drawing's lifts isn't short, where it can stand among the floors, and the count by templates."""

from floorcurves.bounds import need_between
from floorcurves.floors import lost, worth
from floorcurves.marks import how_many_orders


def length(template):
    return max([lift[1] for lift in template])


def long_lifts(k):
    # A short lift loses nothing. Every other one loses at least the floors within it, and each floor between lies
    # within one: so a template of k crossings is no longer than k + 1.
    found = []
    for i in range(k + 1):
        for j in range(i + 1, k + 2):
            found.extend([(i, j, w) for w in range(1, k + 2) if 1 <= lost((i, j, w)) <= k])
    return found


def losing(lifts, k):
    # Sorted lists of these lifts, each as often as one likes, that lose k together.
    if k == 0:
        return [[]]
    found = []
    for place, lift in enumerate(lifts):
        if lost(lift) <= k:
            for rest in losing(lifts[place:], k - lost(lift)):
                found.append([lift] + rest)
    return found


def lies_within(number, lifts):
    return any([lift[0] < number < lift[1] for lift in lifts])


def is_template(lifts):
    between = [lies_within(number, lifts) for number in range(1, length(lifts))]
    return lifts[0][0] == 0 and all(between)


def templates(k):
    need_between(k, 1, 3)
    return sorted([lifts for lifts in losing(long_lifts(k), k) if is_template(lifts)])


def load(template, j):
    return sum([lift[2] for lift in template if lift[0] < j <= lift[1]])


def least_place(template):
    return max([load(template, j) - j + 1 for j in range(1, length(template) + 1)])


def words_at(template, place):
    if place < least_place(template):
        return 0
    # Words are orders of marks whose floors are numbered from 1 on, as those of drawings are.
    marks = [(i + 1, j + 1, w) for i, j, w in template]
    for j in range(1, length(template) + 1):
        marks.extend([(j, j + 1, 1)] * (place + j - 1 - load(template, j)))
    return how_many_orders(length(template), marks)


def last_place(d, template):
    # Ends may come to floor d + 1, and they weigh 1.
    reached = length(template)
    heavy = [lift for lift in template if lift[1] == reached and lift[2] > 1]
    return d - reached if heavy else d + 1 - reached


def standings(d, k):
    # Each template at each place: its crossings, its place, the least place behind it, and what it counts there.
    found = []
    for crossings in range(1, k + 1):
        for template in templates(crossings):
            for place in range(least_place(template), last_place(d, template) + 1):
                counts = words_at(template, place) * worth(template)
                found.append((crossings, place, place + length(template), counts))
    return found


def counted(k, first, standing, known):
    # Rows of templates of k crossings in all, none at a place ahead of the first.
    if k == 0:
        return 1
    key = (k, first)
    if key not in known:
        total = 0
        for crossings, place, behind, counts in standing:
            if crossings <= k and place >= first:
                total += counts * counted(k - crossings, behind, standing, known)
        known[key] = total
    return known[key]


def count_of_rows(d, k):
    return counted(k, 1, standings(d, k), {})


def count_by_templates(d, k):
    need_between(d, 1, 12)
    need_between(k, 0, 3)
    return count_of_rows(d, k)
