"""How wide the span of two answers can be in the open cases of a question."""

from pastlooks.bounds import Bounds
from pastlooks.cases import beside_facts
from pastlooks.searching import bounded, crowded
from pastlooks.steps import End, Fine

NEVER = ("never", None)
ENDLESS = ("endless", None)


def widest_span(step):
    """NEVER if no case is open, ("most", n) for the greatest span n, or ENDLESS if there is no greatest one."""
    return widest_behind(step, Bounds(), NEVER)


def widest_behind(step, above, best):
    """The widest span behind this step, or best if none is wider; above are the bounds of a case on the way to it."""
    if best == ENDLESS:
        return best
    if isinstance(step, End):
        return widest_at(step, above, best)
    bounds = bounded(above, step.case)
    if bounds.ring is not None or isinstance(step, Fine):
        return best
    for index in range(len(step.branches)):
        best = widest_behind(step.next_step(index), bounds, best)
    return best


def widest_at(end, above, best):
    """The widest span at this end, or best if it is not wider."""
    (v, s), (u, t) = end.span
    floor = None if best == NEVER else best[1] - s + t
    far = beyond_all(end.case)
    if floor is not None:
        far = max(far, floor + 1)
    # The fact keeps each greatest value below far as it is, and makes an endless one far, which is above the floor.
    capped = end.case.with_facts([(v, u, far)])
    most = widest(capped, above, (v, u), floor)
    if most == floor:
        return best
    return ENDLESS if most == far else ("most", most + s - t)


def widest(case, above, pair, floor):
    """The most that v can lie behind u in the case, or the floor if this is not above it; None is below all."""
    v, u = pair
    bounds = bounded(above, case)
    if bounds.ring is not None:
        return floor
    most = bounds.least(v, u)
    if floor is not None and most <= floor:
        return floor
    tight = bounded(bounds, case.with_facts([(u, v, -most)]))
    found = crowded(case, tight.kept())
    if found is None:
        return most
    row, stretch = found
    for fact in beside_facts(case, row, stretch):
        floor = widest(case.with_facts([fact]), bounds, pair, floor)
    return floor


def beyond_all(case):
    """More than one variable can lie behind another one at all, unless it can lie behind it as far as one likes.

    A greatest value is the sum along a chain that comes to no variable twice,
    of facts of the case and of those that set rows beside stretches.
    """
    numbers = [abs(fact[2]) for fact in case.facts]
    for stretch in case.stretches:
        numbers.extend([abs(end[1]) + 1 for end in stretch[1:3] if end is not None])
    return len(case.owners) * max(numbers, default=0) + 1
