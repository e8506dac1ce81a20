"""The number of ways to choose some things out of others."""


def choose(number, chosen):
    if chosen < 0 or chosen > number:
        return 0
    found = 1
    for place in range(chosen):
        found = found * (number - place) // (place + 1)
    return found
