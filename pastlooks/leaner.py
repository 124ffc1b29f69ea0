"""Leaner terms: terms that are alike to a term, but have fewer parts."""

from pastlooks.limits import check_one
from pastlooks.verdicts import alike


def leaner(term):
    """The pairs (path, index) of the parts that their own child with this index can replace, ordered."""
    check_one(term)
    return [place for place in child_places(term) if is_spare(term, place)]


def lean(term):
    """The term, made leaner at the first such pair until there is none."""
    check_one(term)
    place = first_spare(term)
    while place is not None:
        term = shortened(term, place)
        place = first_spare(term)
    return term


def child_places(term):
    """The ordered pairs (path, index) of all children of parts of the term."""
    paths = list(term.part_paths())
    return sorted([(path[:-1], path[-1]) for path in paths if path])


def shortened(term, place):
    """The term with a child in the place of the part above it."""
    path, index = place
    return term.with_part(path, term.part_at((*path, index)))


def is_spare(term, place):
    """Whether the term stays alike if this child stands in the place of the part above it."""
    return alike(shortened(term, place), term)


def first_spare(term):
    """The first pair (path, index) where the term can be shortened, or None."""
    for place in child_places(term):
        if is_spare(term, place):
            return place
    return None
