"""The refusals: each has a class of its own under HouseError."""


class HouseError(ValueError):
    pass


class NoFraction(HouseError):
    pass


class NoBox(HouseError):
    pass


class Rooted(HouseError):
    pass


class NoPlace(HouseError):
    pass


class NoName(HouseError):
    pass


class TooMuch(HouseError):
    pass


class NoRule(HouseError):
    pass


class NoValue(HouseError):
    pass


class Unsettled(HouseError):
    pass


class NoText(HouseError):
    pass


class NoRow(HouseError):
    pass
