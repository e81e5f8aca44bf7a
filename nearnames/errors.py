"""The refusals of nearnames, one class for each."""


class NearError(ValueError):
    pass


class NoSize(NearError):
    pass


class NoName(NearError):
    pass


class NoHouse(NearError):
    pass


class Taken(NearError):
    pass


class Silent(NearError):
    pass


class NoTown(NearError):
    pass


class NoLine(NearError):
    pass
