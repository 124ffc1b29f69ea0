"""The errors of the package; each keeps the values that it is raised with in attributes."""


class PastError(ValueError):
    """The base class of all errors of the package."""


class BadName(PastError):
    """Something stands where the name of a stream is expected."""

    def __init__(self, name):
        self.name = name


class BadMoment(PastError):
    """Something stands where an integer is expected."""

    def __init__(self, value):
        self.value = value


class BadBound(PastError):
    """Something stands where an integer from 0 on is expected."""

    def __init__(self, value):
        self.value = value


class BadTerm(PastError):
    """Something stands where a term is expected."""

    def __init__(self, value):
        self.value = value


class BadWay(PastError):
    """The way of a look is not one of the four ways."""

    def __init__(self, way):
        self.way = way


class BadPath(PastError):
    """A path leads to no part of the term."""

    def __init__(self, path):
        self.path = path


class BadWorld(PastError):
    """Something stands where a world is expected."""

    def __init__(self, value):
        self.value = value


class BadRows(PastError):
    """The moments of the named stream are not a list of different integers."""

    def __init__(self, name):
        self.name = name


class BadFact(PastError):
    """The entry at this place of a list of facts is not a fact."""

    def __init__(self, place):
        self.place = place


class BadText(PastError):
    """A text stops following the rules at this place."""

    def __init__(self, place):
        self.place = place


class Unknown(PastError):
    """A lateness does not have the named stream."""

    def __init__(self, name):
        self.name = name


class TooMany(PastError):
    """A term, a world or a question would be larger than its limit."""


class NoPaper(PastError):
    """There is no paper, for the answer to the question is no."""


class Unlike(NoPaper):
    """The terms are not alike."""


class NotCovered(NoPaper):
    """One term does not cover the other one."""


class NotMost(NoPaper):
    """One term can be farther beyond the other one."""


class NotSettled(NoPaper):
    """The term is not settled for this wait."""
