"""Judging whether a thing is a paper (points 25 to 30)."""

from pastlooks.cases import beside_facts
from pastlooks.checks import is_count
from pastlooks.facts import is_ring
from pastlooks.steps import Choice, Fine


def is_paper_of(step, thing):
    """Whether the thing is a paper for what lies behind this step."""
    if is_ring_paper(step.case, thing):
        return True
    if isinstance(step, Fine):
        return is_written(thing, "fine", 1)
    if not isinstance(step, Choice):
        return is_beside_paper(step.case, thing, [])
    if not is_written(thing, "cases", 2):
        return False
    papers = thing[1]
    if not isinstance(papers, tuple) or len(papers) != len(step.branches):
        return False
    for index, paper in enumerate(papers):
        if not is_paper_of(step.next_step(index), paper):
            return False
    return True


def is_written(thing, word, length):
    """Whether the thing is a tuple of this length with the word ahead."""
    if not isinstance(thing, tuple) or len(thing) != length:
        return False
    return isinstance(thing[0], str) and thing[0] == word


def is_ring_paper(case, thing):
    """Whether the thing is a ring of the facts of the case."""
    return is_written(thing, "ring", 2) and is_ring(case.facts, thing[1])


def is_beside_paper(case, thing, used):
    """Whether the thing closes the case by rows that lie beside stretches; used are the pairs on the way to it."""
    if not is_written(thing, "beside", 4):
        return False
    row, stretch, papers = thing[1:]
    if not is_row_beside(case, row, stretch) or (row, stretch) in used:
        return False
    facts = beside_facts(case, row, stretch)
    if not isinstance(papers, tuple) or len(papers) != len(facts):
        return False
    for fact, paper in zip(facts, papers):
        lower = case.with_facts([fact])
        if not is_ring_paper(lower, paper) and not is_beside_paper(lower, paper, [*used, (row, stretch)]):
            return False
    return True


def is_row_beside(case, row, stretch):
    """Whether these are the number of a stretch and the variable of a row that does not lie in it."""
    if not is_count(row) or not is_count(stretch):
        return False
    return stretch < len(case.stretches) and row in case.rows_beside(stretch)
