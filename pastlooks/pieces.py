"""Answers as a function of the asked moment."""

from pastlooks.checks import check_moment
from pastlooks.stretches import NOTHING, answered, clipped, overlaid
from pastlooks.terms import check_term
from pastlooks.worlds import check_world


def pieces(term, world):
    """The pieces (first, last, word, number) of the term's answers in the world."""
    check_term(term)
    check_world(world)
    stretches = answered(term, world)
    found = []
    first = None
    at = 0
    while True:
        form, last = farthest(stretches, at, first)
        found.append((first, last, *form))
        if last is None:
            return found
        first = last + 1
        at = at_moment(stretches, at, first)


def differences(term, world, other):
    """The stretches of asked moments at which the term's answers in both worlds differ."""
    check_term(term)
    check_world(world)
    check_world(other)
    found = []
    for first, last, one, two in overlaid(answered(term, world), answered(term, other)):
        for begin, end in differing(first, last, one, two):
            if found and found[-1][1] + 1 == begin:
                begin = found.pop()[0]
            found.append((begin, end))
    return found


def changes(term, world, name, moment):
    """The differences that one more row makes."""
    check_term(term)
    check_world(world)
    return differences(term, world, world.with_row(name, moment))


def answers(term, world, moments):
    """The answers of the term in the world at the moments, one by one."""
    check_term(term)
    check_world(world)
    for moment in list(moments):
        check_moment(moment)
        yield term.answer(world, moment)


def farthest(stretches, at, first):
    """The form that goes farthest from this moment on, and the last moment of it."""
    form = stretches[at][2]
    if first is None or form == NOTHING:
        return form, last_moment(stretches, at, first, form)
    number = value_at(form, first)
    row = ("row", number)
    row_last = last_moment(stretches, at, first, row)
    shift = ("shift", number - first)
    shift_last = last_moment(stretches, at, first, shift)
    # At a second moment one of both is wrong; if both are wrong there, it is a row.
    if shift_last == first:
        return row, row_last
    return shift, shift_last


def last_moment(stretches, at, first, form):
    """The last moment up to which the form gives all answers from first on, or None.

    The first moment lies in the stretch with the index at, and the form gives
    its answer.
    """
    begin = first
    for index in range(at, len(stretches)):
        last, other = stretches[index][1:]
        if form != other:
            if value_at(form, begin) != value_at(other, begin):
                return begin - 1
            if last != begin:
                return begin
        if last is not None:
            begin = last + 1
    return None


def value_at(form, moment):
    """The answer that the form gives at the moment."""
    word, number = form
    return number + moment if word == "shift" else number


def at_moment(stretches, at, moment):
    """The index, from at on, of the stretch in which the moment lies."""
    last = stretches[at][1]
    while last is not None and last < moment:
        at = at + 1
        last = stretches[at][1]
    return at


def differing(first, last, one, other):
    """The stretches within first to last in which the two forms differ."""
    if one == other:
        return []
    if one[0] == other[0] or NOTHING in (one, other):
        return [(first, last)]
    meeting = one[1] - other[1] if one[0] == "row" else other[1] - one[1]
    return clipped(first, last, None, meeting - 1) + clipped(first, last, meeting + 1, None)
