"""Drawings, polynomials and shades written as texts, and drawings read."""

from floorcurves.errors import NoText

FIGURES = "0123456789"


def show_lift(lift):
    i = lift[0]
    j = lift[1]
    w = lift[2]
    return f"{i}-{j}" if w == 1 else f"{i}-{j}x{w}"


def show_drawing(drawing):
    return " ".join([show_lift(lift) for lift in drawing]) if drawing else "none"


def show_numbers(numbers):
    return " ".join([str(number) for number in numbers])


def show_poly(one):
    tops = show_numbers(one[0]) if one[0] else "0"
    bottom = one[1]
    return tops if bottom == 1 else f"{tops} over {bottom}"


def show_shade(one):
    if not one[1]:
        return "0"
    low = one[0]
    numbers = show_numbers(one[1])
    return f"{low}: {numbers}"


def read_from_nought(word, most):
    # Python's own int and isdigit take signs, blanks and figures of other scripts too.
    in_figures = word != "" and all([sign in FIGURES for sign in word])
    if not in_figures or len(word) > most or word.startswith("0") and word != "0":
        raise NoText(f"not a whole number from 0 on, of at most {most} figures")
    return int(word)


def read_whole(word, most):
    if not word.startswith("-"):
        return read_from_nought(word, most)
    number = read_from_nought(word[1:], most)
    if number == 0:
        raise NoText("nought is written without a sign")
    return -number


def read_lift(word):
    floors = word.split("-")
    if len(floors) != 2:
        raise NoText("a lift has two floors")
    upper = floors[1].split("x")
    i = read_from_nought(floors[0], 1)
    j = read_from_nought(upper[0], 1)
    w = read_from_nought(upper[1], 2) if len(upper) > 1 else 1
    # Written again it also shows a weight of 1 that isn't to be written, and more than one weight.
    if not 1 <= i < j or not 1 <= w <= 60 or show_lift((i, j, w)) != word:
        raise NoText("not a lift")
    return (i, j, w)


def read_drawing(text):
    if text == "none":
        return []
    lifts = [read_lift(word) for word in text.split(" ")]
    if lifts != sorted(lifts):
        raise NoText("the lifts aren't sorted")
    return lifts
