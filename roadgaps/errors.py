"""The refusals, one class for each."""


class RoadError(ValueError):
    pass


class NoRoad(RoadError):
    pass


class NoGaps(RoadError):
    pass


class TooMany(RoadError):
    pass


class Meets(RoadError):
    pass


class BadText(RoadError):
    pass
