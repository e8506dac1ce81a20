"""Things that are no whole numbers, and numbers far off: what may be handed in as a degree or a bound."""

FAR_OFF = [10 ** 60, -(10 ** 60), 10 ** 5000, -(10 ** 5000), 2 ** 64, -1000, 1000]


class Unwritable:
    """Can't be shown, compared or hashed."""

    __hash__ = None

    def __repr__(self):
        raise RuntimeError("not shown")

    def __eq__(self, other):
        raise RuntimeError("not compared")

    def __lt__(self, other):
        raise RuntimeError("not compared")

    __gt__ = __le__ = __ge__ = __lt__


NOT_WHOLE = [
    True, False, None, "", "1", "2", "one", [], [1], [1, 2], (), (1,), (2, 3), {}, {1: 1}, set(), {1},
    frozenset({2}), 1.0, 2.0, 3.5, float("nan"), float("inf"), 1j, b"1", object(), int, len, Unwritable(),
    [[]], [None], range(3),
]
