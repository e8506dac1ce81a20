"""Papers: lists of marked drawings, told whole and looked through."""

from floorcurves.bounds import need_between, need_wide
from floorcurves.floors import drawings, sound, worth
from floorcurves.marks import all_marks, markings, may_stand, without_first


def paper(d, k):
    need_wide(d, k)
    if d == 5:
        need_between(k, 0, 1)
    found = []
    for drawing in drawings(d, k):
        # The asker may change the drawing of one entry, which is not to change the next one's.
        found.extend([(list(drawing), marking) for marking in markings(d, drawing)])
    return found


def is_lift(d, lift):
    return 1 <= lift[0] < lift[1] <= d and lift[2] >= 1


def is_drawing(d, k, lifts):
    if len(lifts) != d * (d - 1) // 2 - k or lifts != sorted(lifts):
        return False
    return all([is_lift(d, lift) for lift in lifts]) and sound(d, lifts)


def is_marking(d, drawing, marks):
    waiting = all_marks(d, drawing)
    floor = 0
    for mark in marks:
        if mark not in waiting or not may_stand(mark, floor, waiting):
            return False
        if mark[0] == mark[1]:
            floor += 1
        waiting = without_first(waiting, mark)
    return not waiting


def weighed(d, k, paper):
    need_wide(d, k)
    seen = {}
    total = 0
    for drawing, marking in paper:
        entry = (tuple(drawing), tuple(marking))
        if entry in seen or not is_drawing(d, k, drawing) or not is_marking(d, drawing, marking):
            return None
        seen[entry] = True
        total += worth(drawing)
    return total
