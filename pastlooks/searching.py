"""Searching papers, and the examples that show that there is none."""

from pastlooks.bounds import Bounds
from pastlooks.cases import beside_facts
from pastlooks.steps import End, Fine


def bounded(bounds, case):
    """The bounds of the case; bounds has those of a case on the way to it."""
    return bounds.grown(len(case.owners), case.facts)


def found_paper(step):
    """A paper for what lies behind this step, or None if there is none."""
    return paper_behind(step, Bounds())


def paper_behind(step, above):
    """A paper for the step, or None if there is none; above are the bounds of a case on the way to it."""
    if isinstance(step, End):
        return closed(step.case, above)[0]
    bounds = bounded(above, step.case)
    if bounds.ring is not None:
        return ("ring", bounds.ring)
    if isinstance(step, Fine):
        return ("fine",)
    papers = []
    for index in range(len(step.branches)):
        paper = paper_behind(step.next_step(index), bounds)
        if paper is None:
            return None
        papers.append(paper)
    return ("cases", tuple(papers))


def open_case(step):
    """A pair of an open case with the fewest rows and values that keep all that it says, or None if there is none."""
    return fewest_behind(step, Bounds(), None)


def fewest_behind(step, above, best):
    """The open case with the fewest rows and its values: best, unless one behind this step has fewer rows."""
    if best is not None and step.case.row_count() >= best[0].row_count():
        return best
    if isinstance(step, End):
        values = closed(step.case, above)[1]
        return best if values is None else (step.case, values)
    bounds = bounded(above, step.case)
    if bounds.ring is not None or isinstance(step, Fine):
        return best
    for index in range(len(step.branches)):
        best = fewest_behind(step.next_step(index), bounds, best)
    return best


def closed(case, above):
    """A paper that closes the case and None, or None and values that keep all that the case says."""
    bounds = bounded(above, case)
    if bounds.ring is not None:
        return ("ring", bounds.ring), None
    values = bounds.kept()
    pair = crowded(case, values)
    if pair is None:
        return None, values
    row, stretch = pair
    papers = []
    for fact in beside_facts(case, row, stretch):
        paper, found = closed(case.with_facts([fact]), bounds)
        if paper is None:
            return None, found
        papers.append(paper)
    return ("beside", row, stretch, tuple(papers)), None


def crowded(case, values):
    """A row and a stretch in which it lies by these values, but must not lie, or None."""
    for number, stretch in enumerate(case.stretches):
        low, high = stretch[1:3]
        for row in case.rows_beside(number):
            behind_low = low is None or values[row] >= values[low[0]] + low[1]
            if behind_low and (high is None or values[row] <= values[high[0]] + high[1]):
                return row, number
    return None
