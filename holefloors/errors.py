"""The errors that the package raises."""


def _own(value):
    """The value, a list as a copy: a caller may go on to change the list."""
    return list(value) if isinstance(value, list) else value


class NoCell(LookupError):
    """A pair of numbers is no CELL, or no RAIL, of the YARD."""

    def __init__(self, cell):
        LookupError.__init__(self, "no such cell in the yard")
        self.cell = _own(cell)


class NoPlace(LookupError):
    """A pair of numbers is no PLACE of the YARD."""

    def __init__(self, place):
        LookupError.__init__(self, "no such place in the yard")
        self.place = _own(place)


class NothingDone(LookupError):
    """There is nothing to take back, or to do once more."""


class BadText(ValueError):
    """A line of a text can not be read."""

    def __init__(self, line):
        ValueError.__init__(self, "a line can not be read")
        self.line = line


class Broken(ValueError):
    """A PLAN can not be done: number tells its first PLACE that can not be slid to."""

    def __init__(self, number):
        ValueError.__init__(self, "a plan can not be done")
        self.number = number


class CanNot(ValueError):
    """What is asked for does not exist."""


class TooMany(ValueError):
    """What is asked for is too much to be listed."""


class Unfit(ValueError):
    """A value is not what the function takes."""
