"""Answers of a term in one world, stretch by stretch of the asked moments.

A stretch is a tuple (first, last, form) of asked moments, both included; None
stands for no beginning or no end. A form is a pair of a word and a number:
NOTHING, ("row", number) for this answer at each moment, or ("shift", number)
for the asked moment plus this number.
"""

from pastlooks.lookup import count_before, row_within
from pastlooks.terms import Either, Later, Look, Now, Shift

NOTHING = ("none", None)


def answered(term, world):
    """The stretches of the term's answers, ascending and without gaps."""
    if isinstance(term, Now):
        return [(None, None, ("shift", 0))]
    if isinstance(term, Shift):
        below = answered(term.moment, world)
        return [(first, last, raised(form, term.amount)) for first, last, form in below]
    if isinstance(term, Look):
        return joined_forms(looked_up(term, world))
    both = overlaid(answered(term.first, world), answered(term.second, world))
    found = []
    for first, last, one, other in both:
        if isinstance(term, Either):
            found.append((first, last, other if one == NOTHING else one))
        else:
            found.extend(ordered(first, last, one, other, isinstance(term, Later)))
    return joined_forms(found)


def raised(form, amount):
    """The form of the answer plus the amount."""
    word, number = form
    return form if form == NOTHING else (word, number + amount)


def looked_up(look, world):
    """The stretches of a look, perhaps more of them than needed."""
    moments = world[look.stream]
    found = []
    for first, last, form in answered(look.moment, world):
        word, number = form
        if word == "shift":
            found.extend(looked_along(look, moments, first, last, number))
        elif word == "row":
            row = row_within(moments, look.way, look.within, number)
            found.append((first, last, NOTHING if row is None else ("row", row)))
        else:
            found.append((first, last, NOTHING))
    return found


def looked_along(look, moments, first, last, amount):
    """The stretches from first to last of a look from the asked moment plus the amount."""
    start = 0 if first is None else count_before(moments, first + amount)
    stop = len(moments) if last is None else count_before(moments, last + amount + 1)
    # One more row on each side: it may be found from inside, or bound what is found.
    places = [moment - amount for moment in moments[max(start - 1, 0):stop + 1]]
    caught = []
    for index, place in enumerate(places):
        previous = places[index - 1] if index > 0 else None
        following = places[index + 1] if index + 1 < len(places) else None
        low, high = catching(look, previous, place, following)
        caught.extend([(begin, end, ("row", place + amount)) for begin, end in clipped(first, last, low, high)])
    return filled(first, last, caught)


def catching(look, previous, place, following):
    """The first and the last moment from which the look finds the row at this place.

    Previous and following are the places of the rows beside it, or None. If
    there is no such moment, the first one lies behind the last one.
    """
    within = look.within
    if look.way == "at":
        begin, end = place, None if following is None else following - 1
    elif look.way == "before":
        begin, end = place + 1, following
    elif look.way == "since":
        begin, end = None if previous is None else previous + 1, place
    else:
        begin, end = previous, place - 1
    if within is None:
        return begin, end
    return later_begin(begin, place - within), sooner_end(end, place + within)


def later_begin(one, other):
    """The later one of two beginnings; None is no beginning."""
    if one is None or other is None:
        return other if one is None else one
    return max(one, other)


def sooner_end(one, other):
    """The sooner one of two ends; None is no end."""
    if one is None or other is None:
        return other if one is None else one
    return min(one, other)


def clipped(first, last, begin, end):
    """What begin to end has in common with first to last: one pair, or none."""
    begin = later_begin(first, begin)
    end = sooner_end(last, end)
    if begin is not None and end is not None and begin > end:
        return []
    return [(begin, end)]


def filled(first, last, caught):
    """The ascending stretches that were caught between first and last, and nothing in the gaps."""
    found = []
    begin = first
    for low, high, form in caught:
        if low != begin:
            found.append((begin, low - 1, NOTHING))
        found.append((low, high, form))
        if high == last:
            return found
        begin = high + 1
    found.append((begin, last, NOTHING))
    return found


def overlaid(ones, others):
    """The stretches (first, last, one, other) on which both forms stay the same."""
    found = []
    first = None
    at = 0
    beside = 0
    while True:
        one_last, one = ones[at][1:]
        other_last, other = others[beside][1:]
        last = sooner_end(one_last, other_last)
        found.append((first, last, one, other))
        if last is None:
            return found
        if one_last == last:
            at = at + 1
        if other_last == last:
            beside = beside + 1
        first = last + 1


def ordered(first, last, one, other, is_later):
    """The stretches of the later or the earlier one of both answers."""
    if NOTHING in (one, other):
        return [(first, last, NOTHING)]
    if one[0] == other[0]:
        pick = max(one[1], other[1]) if is_later else min(one[1], other[1])
        return [(first, last, (one[0], pick))]
    row, shift = (one, other) if one[0] == "row" else (other, one)
    # Up to this moment the row is the later one, or both are the same; behind it the shift is later.
    meeting = row[1] - shift[1]
    ahead, behind = (row, shift) if is_later else (shift, row)
    found = [(begin, end, ahead) for begin, end in clipped(first, last, None, meeting)]
    found.extend([(begin, end, behind) for begin, end in clipped(first, last, meeting + 1, None)])
    return found


def joined_forms(stretches):
    """The stretches, with those joined that lie side by side and have one form."""
    found = []
    for first, last, form in stretches:
        if found and found[-1][2] == form:
            first = found.pop()[0]
        found.append((first, last, form))
    return found
