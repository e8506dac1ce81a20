"""The refusals: one base under ValueError, and the others each straight under it."""


class CurveError(ValueError):
    pass


class NoNumber(CurveError):
    pass


class NoBound(CurveError):
    pass


class NoDrawing(CurveError):
    pass


class NoEnds(CurveError):
    pass


class NoText(CurveError):
    pass
