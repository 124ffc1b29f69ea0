"""Facts: variable a is at most variable b plus c."""

from pastlooks.bounds import Bounds
from pastlooks.checks import is_count, is_integer
from pastlooks.errors import BadFact


def ring(count, facts):
    """A ring of the facts, or None if some values keep all of them."""
    return bounds_of(count, facts).ring


def solution(count, facts):
    """Values of the variables that keep all facts, or None if there are none."""
    bounds = bounds_of(count, facts)
    if bounds.ring is not None:
        return None
    return bounds.kept()


def bound(count, facts, a, b):
    """The least integer c such that a is at most b plus c for all values that keep the facts, or None."""
    bounds = bounds_of(count, facts)
    if bounds.ring is not None:
        return None
    return bounds.least(a, b)


def is_ring(facts, thing):
    """Whether the thing is a ring of the facts."""
    if not isinstance(thing, tuple) or not thing:
        return False
    if not all([is_count(index) and index < len(facts) for index in thing]):
        return False
    # In front of the first fact stands the last one, whose place is -1.
    follows = [facts[thing[place - 1]][1] == facts[thing[place]][0] for place in range(len(thing))]
    return all(follows) and sum([facts[index][2] for index in thing]) < 0


def bounds_of(count, facts):
    """The bounds of the facts, or the error of the first wrong one."""
    for place, entry in enumerate(facts):
        if not is_fact(count, entry):
            raise BadFact(place)
    return Bounds().grown(count, facts)


def is_fact(count, entry):
    """Whether the entry is a fact of the variables from 0 to count - 1."""
    if not isinstance(entry, tuple) or len(entry) != 3:
        return False
    if not all([is_integer(part) for part in entry]):
        return False
    return 0 <= entry[0] < count and 0 <= entry[1] < count
