"""Lists of whole numbers: reckoned place by place, as polynomials and shades are, and multiplied together."""


def without_last_noughts(numbers):
    kept = list(numbers)
    while kept and kept[-1] == 0:
        kept.pop()
    return kept


def sum_by_place(one, other):
    total = [0] * max(len(one), len(other))
    for numbers in (one, other):
        for place, number in enumerate(numbers):
            total[place] += number
    return total


def product_by_place(one, other):
    total = [0] * (len(one) + len(other))
    for place, number in enumerate(one):
        for further, factor in enumerate(other):
            total[place + further] += number * factor
    return total


def with_more(numbers, place, more):
    # For tuples, so that what comes of it can be a key.
    return numbers[:place] + (numbers[place] + more,) + numbers[place + 1:]


def product_of(numbers):
    product = 1
    for number in numbers:
        product *= number
    return product
