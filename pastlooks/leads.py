"""How far the answer of one term can lie behind that of another one, for all worlds and moments."""

from pastlooks.cases import first_case
from pastlooks.checks import check_moment
from pastlooks.errors import NotMost
from pastlooks.examples import found_example
from pastlooks.judging import is_paper_of
from pastlooks.limits import check_two
from pastlooks.searching import found_paper
from pastlooks.spans import widest_span
from pastlooks.steps import most_steps, span_steps
from pastlooks.terms import Now


def lead(one, other):
    """How far one can lie behind other: ("never", None), ("most", n) or ("endless", None)."""
    check_two(one, other)
    return widest_span(span_steps(one, other, first_case()))


def age(term):
    """How far the asked moment can lie behind the answer of the term."""
    return lead(Now(), term)


def reaching(one, other, n):
    """A pair (world, now) with the fewest rows where one minus other is at least n, or None."""
    check_arguments(one, other, n)
    return found_example(most_steps(one, other, n - 1, first_case()))


def lead_paper(one, other, n):
    """A paper that shows that one minus other is at most n, or NotMost."""
    check_arguments(one, other, n)
    found = found_paper(most_steps(one, other, n, first_case()))
    if found is None:
        raise NotMost()
    return found


def is_lead_paper(one, other, n, thing):
    """Whether the thing is a paper that shows that one minus other is at most n."""
    check_arguments(one, other, n)
    return is_paper_of(most_steps(one, other, n, first_case()), thing)


def check_arguments(one, other, n):
    """Raise the error of the first wrong one."""
    check_two(one, other)
    check_moment(n)
