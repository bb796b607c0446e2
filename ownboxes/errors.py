"""The refusals of the program, one class for each."""


class BoxError(ValueError):
    pass


class BadOrder(BoxError):
    pass


class BadBox(BoxError):
    pass


class BadOpenings(BoxError):
    pass


class NoPerson(BoxError):
    pass


class TooMany(BoxError):
    pass


class NoNumber(BoxError):
    pass


class BadPlan(BoxError):
    pass


class NoHelp(BoxError):
    pass


class BadGroup(BoxError):
    pass


class BadText(BoxError):
    def __init__(self, row):
        BoxError.__init__(self, f"row {row} is not so written")
        self.row = row
