"""The errors of the package, and Held, with which a run of a work ends."""


class TurnError(ValueError):
    """All errors of the package are direct subclasses of this one."""


class BadWorks(TurnError):
    """A shop would have too few or too many works."""

    def __init__(self, count):
        self.count = count


class BadName(TurnError):
    """A name of a thing is no word, or stood already."""

    def __init__(self, name):
        self.name = name


class BadValue(TurnError):
    """What should be a value is none."""

    def __init__(self, value):
        self.value = value


class BadSize(TurnError):
    """What should be the size of a belt is none."""

    def __init__(self, size):
        self.size = size


class BadLimit(TurnError):
    """A limit of a shop is no integer, or out of its bounds."""

    def __init__(self, limit):
        self.limit = limit


class NoThing(TurnError):
    """There is no such cell, lock or belt."""

    def __init__(self, name):
        self.name = name


class NotHeld(TurnError):
    """A work gives a lock that it does not hold."""

    def __init__(self, lock):
        self.lock = lock


class NoWork(TurnError):
    """There is no work with this number."""

    def __init__(self, number):
        self.number = number


class CanNot(TurnError):
    """A work cannot go now."""

    def __init__(self, number):
        self.number = number


class NoStep(TurnError):
    """There is no such step in a web."""

    def __init__(self, step):
        self.step = step


class NoMoment(TurnError):
    """There is no such moment in a web."""

    def __init__(self, moment):
        self.moment = moment


class BadStretch(TurnError):
    """What should be a stretch is none."""

    def __init__(self, stretch):
        self.stretch = stretch


class NotTruth(TurnError):
    """A test returned neither True nor False."""

    def __init__(self, value):
        self.value = value


class Beyond(TurnError):
    """A shop has runs or beginnings beyond its limits."""


class Held(Exception):
    """A run of a work ends here; works let it go on."""
