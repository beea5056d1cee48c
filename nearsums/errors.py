"""The refusals of the program, one class for each."""


class SumError(ValueError):
    pass


class NoPlan(SumError):
    pass


class NoNumber(SumError):
    pass


class NoKind(SumError):
    pass


class NoPlace(SumError):
    pass


class NoRow(SumError):
    pass


class NoCut(SumError):
    pass


class NoPart(SumError):
    pass


class NoSum(SumError):
    pass


class TooMany(SumError):
    pass


class NoText(SumError):
    pass


class NoName(SumError):
    pass


class NoSaying(SumError):
    pass
