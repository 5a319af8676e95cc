"""The errors of the program; each keeps what it was made from."""


class NightError(ValueError):
    """What all errors of the program are; raised nowhere itself."""


class Wrong(NightError):
    """The argument at this place is not as described."""

    def __init__(self, place):
        self.place = place


class NoText(NightError):
    """The line with this index does not show what it should."""

    def __init__(self, line):
        self.line = line


class NoCar(NightError):
    """There is no car with this name."""

    def __init__(self, name):
        self.name = name


class NoCable(NightError):
    """There is no cable from start to end."""

    def __init__(self, start, end):
        self.start = start
        self.end = end


class NoPart(NightError):
    """There is no part with this name."""

    def __init__(self, name):
        self.name = name


class TooMany(NightError):
    """There are more than this to go through."""

    def __init__(self, most):
        self.most = most


class PowerCut(NightError):
    """Power has failed."""


class NoCommand(NightError):
    """The line is no command."""


class Short(NightError):
    """Behind the order, and so many hours of plenty, less is charged than could be."""

    def __init__(self, hours):
        self.hours = hours
