"""Whether two terms are alike, and whether one covers the other one, for all worlds and moments."""

from pastlooks.cases import first_case
from pastlooks.checks import is_integer
from pastlooks.errors import NotCovered, Unlike
from pastlooks.examples import found_example
from pastlooks.judging import is_paper_of
from pastlooks.limits import check_two
from pastlooks.searching import found_paper
from pastlooks.steps import alike_steps, covers_steps
from pastlooks.worlds import World


def alike(one, other):
    """Whether both terms always give the same answer."""
    return found_paper(alike_question(one, other)) is not None


def parting(one, other):
    """A pair (world, now) with the fewest rows at which the answers differ, or None."""
    return found_example(alike_question(one, other))


def is_parting(one, other, thing):
    """Whether the thing is a pair of a world and a moment at which the answers differ."""
    check_two(one, other)
    if not isinstance(thing, tuple) or len(thing) != 2:
        return False
    world, now = thing
    if not isinstance(world, World) or not is_integer(now):
        return False
    return one.answer(world, now) != other.answer(world, now)


def paper(one, other):
    """A paper that shows that the terms are alike, or Unlike."""
    found = found_paper(alike_question(one, other))
    if found is None:
        raise Unlike()
    return found


def is_paper(one, other, thing):
    """Whether the thing is a paper that shows that the terms are alike."""
    return is_paper_of(alike_question(one, other), thing)


def covers(one, other):
    """Whether one has an answer wherever other has one."""
    return found_paper(covers_question(one, other)) is not None


def gap(one, other):
    """A pair (world, now) with the fewest rows where other has an answer and one has none, or None."""
    return found_example(covers_question(one, other))


def cover_paper(one, other):
    """A paper that shows that one covers other, or NotCovered."""
    found = found_paper(covers_question(one, other))
    if found is None:
        raise NotCovered()
    return found


def is_cover_paper(one, other, thing):
    """Whether the thing is a paper that shows that one covers other."""
    return is_paper_of(covers_question(one, other), thing)


def alike_question(one, other):
    """The first step of the question whether the terms are alike, if they are within the limits."""
    check_two(one, other)
    return alike_steps(one, other, first_case())


def covers_question(one, other):
    """The first step of the question whether one covers other, if they are within the limits."""
    check_two(one, other)
    return covers_steps(one, other, first_case())
