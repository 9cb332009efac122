"""The refusals: one class each, so that the asker can tell them apart."""


class YardError(ValueError):
    pass


class NoLength(YardError):
    pass


class NoBoard(YardError):
    pass


class NoText(YardError):
    pass


class NoDeed(YardError):
    pass


class NoName(YardError):
    pass


class Grain(YardError):
    pass


class Unfit(YardError):
    pass


class TooMany(YardError):
    pass


class NoRow(YardError):
    pass


class Apart(YardError):
    pass
