"""Checks of integers and names, with the errors that they raise."""

from pastlooks.errors import BadBound, BadMoment, BadName

LETTERS = "abcdefghijklmnopqrstuvwxyz"
MOST_LETTERS = 12


def is_integer(thing):
    """Whether the thing is an integer; True and False are none."""
    return isinstance(thing, int) and not isinstance(thing, bool)


def is_count(thing):
    """Whether the thing is an integer from 0 on."""
    return is_integer(thing) and thing >= 0


def is_name(thing):
    """Whether the thing is the name of a stream."""
    if not isinstance(thing, str) or not 1 <= len(thing) <= MOST_LETTERS:
        return False
    return all([letter in LETTERS for letter in thing])


def check_name(name):
    """Raise BadName unless this is a name."""
    if not is_name(name):
        raise BadName(name)


def check_moment(value):
    """Raise BadMoment unless this is an integer."""
    if not is_integer(value):
        raise BadMoment(value)


def check_bound(value):
    """Raise BadBound unless this is an integer from 0 on."""
    if not is_count(value):
        raise BadBound(value)


def check_limit(value):
    """Raise BadBound unless this is None or an integer from 0 on."""
    if value is not None:
        check_bound(value)
