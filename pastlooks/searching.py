"""Searching papers and the worlds that show that there is none."""

from pastlooks.bounds import Bounds
from pastlooks.cases import beside_facts
from pastlooks.steps import Choice, Fine
from pastlooks.worlds import World


def bounded(bounds, case):
    """The bounds of the case; bounds has those of a case on the way to it."""
    return bounds.grown(len(case.owners), case.facts)


def found_paper(step):
    """A paper for what lies behind this step, or None if there is none."""
    return paper_behind(step, bounded(Bounds(), step.case))


def paper_behind(step, bounds):
    """A paper for the step, whose case has these bounds, or None if there is none."""
    if isinstance(step, Fine):
        return ("fine",)
    if not isinstance(step, Choice):
        return closed(step.case, bounds)[0]
    papers = []
    for index, branch in enumerate(step.branches):
        tighter = bounded(bounds, branch[0])
        if tighter.ring is None:
            paper = paper_behind(step.next_step(index), tighter)
        else:
            paper = ("ring", tighter.ring)
        if paper is None:
            return None
        papers.append(paper)
    return ("cases", tuple(papers))


def found_example(step):
    """A pair (world, now) that ends in an open case, with the fewest rows, or None if there is none."""
    best = best_behind(step, bounded(Bounds(), step.case), None)
    if best is None:
        return None
    case, values = best
    rows = [(owner, values[variable]) for variable, owner in enumerate(case.owners) if owner is not None]
    return World.of(rows), values[0]


def best_behind(step, bounds, best):
    """The open case with the fewest rows and its values: best, unless one behind this step has fewer rows."""
    if best is not None and step.case.row_count() >= best[0].row_count():
        return best
    if isinstance(step, Fine):
        return best
    if not isinstance(step, Choice):
        values = closed(step.case, bounds)[1]
        return best if values is None else (step.case, values)
    for index, branch in enumerate(step.branches):
        tighter = bounded(bounds, branch[0])
        if tighter.ring is None:
            best = best_behind(step.next_step(index), tighter, best)
    return best


def closed(case, bounds):
    """A paper that closes the case and None, or None and values that keep all that the case says."""
    values = bounds.kept()
    pair = crowded(case, values)
    if pair is None:
        return None, values
    row, stretch = pair
    papers = []
    for fact in beside_facts(case, row, stretch):
        lower = case.with_facts([fact])
        tighter = bounded(bounds, lower)
        if tighter.ring is not None:
            papers.append(("ring", tighter.ring))
            continue
        paper, found = closed(lower, tighter)
        if paper is None:
            return None, found
        papers.append(paper)
    return ("beside", row, stretch, tuple(papers)), None


def crowded(case, values):
    """A row and a stretch of its stream in which it lies by these values, or None."""
    for number, stretch in enumerate(case.stretches):
        stream, low, high = stretch
        for row in case.rows_of(stream):
            behind_low = low is None or values[row] >= values[low[0]] + low[1]
            if behind_low and (high is None or values[row] <= values[high[0]] + high[1]):
                return row, number
    return None
