"""The refusals of the program, each with a class of its own."""


class CourtError(ValueError):
    pass


class BadRules(CourtError):
    pass


class BadStanding(CourtError):
    pass


class Over(CourtError):
    pass


class BadPart(CourtError):
    pass


class NoSuch(CourtError):
    pass


class NoText(CourtError):
    pass
