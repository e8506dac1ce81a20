"""Markings of sound drawings: the lists of their floors, lifts and ends, their number, and the counts by floors."""

from floorcurves.bounds import need_degree, need_wide
from floorcurves.choosing import choose
from floorcurves.errors import NoDrawing
from floorcurves.floors import drawings, ends_at, parts, sound, worth
from floorcurves.series import with_more


def need_sound(d, drawing):
    need_degree(d)
    if not sound(d, drawing):
        raise NoDrawing("there are fewer than 0 ends at a floor")


def end_marks(d, drawing):
    found = []
    for place, number in enumerate(ends_at(d, drawing)):
        found.extend([(place + 1, d + 1, 1)] * number)
    return found


def put_between(numbers, first, last, alike):
    # Place by place, each behind a floor: alike marks are chosen among all that stand there, not told apart themselves.
    if first == last:
        return [(with_more(numbers, first, alike), choose(numbers[first] + alike, alike))]
    found = []
    for here in range(alike + 1):
        choices = choose(numbers[first] + here, here)
        for fuller, others in put_between(with_more(numbers, first, here), first + 1, last, alike - here):
            found.append((fuller, choices * others))
    return found


def how_many_orders(d, marks):
    # How many marks stand behind each floor is all that those put in later hang on.
    known = {tuple([0] * d): 1}
    for mark in sorted(set(marks)):
        fuller = {}
        for numbers in known:
            for further, choices in put_between(numbers, mark[0] - 1, mark[1] - 2, marks.count(mark)):
                fuller[further] = fuller.get(further, 0) + known[numbers] * choices
        known = fuller
    return sum(known.values())


def how_many(d, drawing):
    need_sound(d, drawing)
    return how_many_orders(d, drawing + end_marks(d, drawing))


def may_stand(mark, floor, waiting):
    # Floors up to this one stand already.
    if mark[0] != mark[1]:
        return mark[0] <= floor
    return mark[0] == floor + 1 and not any([other[1] == mark[0] for other in waiting if other != mark])


def without_first(waiting, mark):
    place = waiting.index(mark)
    return waiting[:place] + waiting[place + 1:]


def orders(floor, waiting):
    if not waiting:
        return [[]]
    found = []
    for mark in sorted(set(waiting)):
        if may_stand(mark, floor, waiting):
            reached = floor + 1 if mark[0] == mark[1] else floor
            for rest in orders(reached, without_first(waiting, mark)):
                found.append([mark] + rest)
    return found


def all_marks(d, drawing):
    return [(floor, floor, 0) for floor in range(1, d + 1)] + drawing + end_marks(d, drawing)


def markings(d, drawing):
    need_sound(d, drawing)
    return orders(0, all_marks(d, drawing))


def count_by_floors(d, k):
    need_wide(d, k)
    return sum([worth(drawing) * how_many(d, drawing) for drawing in drawings(d, k)])


def whole_by_floors(d, k):
    need_wide(d, k)
    whole = [drawing for drawing in drawings(d, k) if parts(d, drawing) == 1]
    return sum([worth(drawing) * how_many(d, drawing) for drawing in whole])
