"""What a whole number is, and the bounds of degrees and crossings."""

from floorcurves.errors import NoBound

# The greatest k of each d.
NARROW = {1: 6, 2: 6, 3: 6, 4: 2}
WIDE = {1: 6, 2: 6, 3: 6, 4: 6, 5: 3}


def is_whole(thing):
    return isinstance(thing, int) and not isinstance(thing, bool)


def need_between(thing, least, greatest):
    # The words don't show the thing: not everything that may be handed in can be written as a text.
    if not is_whole(thing) or thing < least or thing > greatest:
        raise NoBound(f"not a whole number from {least} to {greatest}")


def need_narrow(d, k):
    need_between(d, 1, 4)
    need_between(k, 0, NARROW[d])


def need_wide(d, k):
    need_between(d, 1, 5)
    need_between(k, 0, WIDE[d])


def need_degree(d):
    need_between(d, 1, 5)
