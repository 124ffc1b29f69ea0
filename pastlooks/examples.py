"""The smallest worlds that show that the answer to a question is no."""

from pastlooks.cases import KNOWING, KNOWN, NOW, ROW, UNKNOWN
from pastlooks.searching import open_case
from pastlooks.worlds import World


def found_example(step):
    """A pair (world, now) with the fewest rows that ends in an open case, or None if there is none."""
    found = open_case(step)
    if found is None:
        return None
    case, values = found
    return world_of(case, values, (ROW,)), values[NOW]


def found_late_example(step):
    """A tuple (world, known, now, moment) with the fewest rows that ends in an open case, or None if there is none."""
    found = open_case(step)
    if found is None:
        return None
    case, values = found
    world = world_of(case, values, (KNOWN, UNKNOWN))
    # A row that the values make both known and unknown is known.
    known = world_of(case, values, (KNOWN,))
    return world, known, values[NOW], values[KNOWING]


def world_of(case, values, sorts):
    """The world of the case's rows of these sorts, at these values."""
    rows = []
    for variable, owner in enumerate(case.owners):
        if owner is not None and owner[1] in sorts:
            rows.append((owner[0], values[variable]))
    return World.of(rows)
