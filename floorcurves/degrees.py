"""The count by templates for every degree at once: its polynomial, and the degree from which on it holds."""

from floorcurves.bounds import need_between
from floorcurves.polys import through, value
from floorcurves.templates import count_of_rows


def surely_from(k):
    # The words of a template are a polynomial of the place from its least place on, and that and its length come to at
    # most twice its crossings and 1: from this degree on the sum over all places is a polynomial of the degree.
    return 2 * k + 1


def polynomial_of(k):
    need_between(k, 0, 3)
    start = surely_from(k)
    return through(start, [count_of_rows(degree, k) for degree in range(start, start + 2 * k + 1)])


def holds_from(k):
    need_between(k, 0, 3)
    one = polynomial_of(k)
    degree = surely_from(k)
    while degree > 1 and value(one, degree - 1) == (count_of_rows(degree - 1, k), 1):
        degree -= 1
    return degree
