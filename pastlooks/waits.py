"""Late rows: what may be known at a moment, and how long to wait until an answer cannot change any more."""

from pastlooks.cases import first_late_case
from pastlooks.checks import check_bound, check_moment, is_count, is_integer
from pastlooks.errors import NotSettled, Unknown
from pastlooks.examples import found_late_example
from pastlooks.judging import is_paper_of
from pastlooks.limits import check_one
from pastlooks.searching import found_paper
from pastlooks.spans import ENDLESS, NEVER, widest_span
from pastlooks.steps import settled_steps
from pastlooks.worlds import World, check_world


def may_know(world, lateness, moment, known):
    """Whether the world known can be what is known of the world at the moment of knowing."""
    check_world(world)
    check_lateness(world.names(), lateness)
    check_moment(moment)
    check_world(known)
    return may_be_known(world, lateness, moment, known)


def least_wait(term, lateness):
    """The least wait for which the term is settled, or None if there is none."""
    span = widest_span(settled_question(term, lateness, 0))
    if span == NEVER:
        return 0
    if span == ENDLESS:
        return None
    return span[1] + 1


def unsettled(term, lateness, wait):
    """A tuple (world, known, now, moment) with the fewest rows where the answers differ, or None."""
    return found_late_example(settled_question(term, lateness, wait))


def is_unsettled(term, lateness, wait, thing):
    """Whether the thing is a tuple (world, known, now, moment) where the answers differ."""
    check_question(term, lateness, wait)
    if not isinstance(thing, tuple) or len(thing) != 4:
        return False
    world, known, now, moment = thing
    if not isinstance(world, World) or not isinstance(known, World):
        return False
    if not is_integer(now) or not is_integer(moment) or moment < now + wait:
        return False
    if not all([name in lateness and is_count(lateness[name]) for name in world.names()]):
        return False
    return may_be_known(world, lateness, moment, known) and term.answer(known, now) != term.answer(world, now)


def wait_paper(term, lateness, wait):
    """A paper that shows that the term is settled for this wait, or NotSettled."""
    found = found_paper(settled_question(term, lateness, wait))
    if found is None:
        raise NotSettled()
    return found


def is_wait_paper(term, lateness, wait, thing):
    """Whether the thing is a paper that shows that the term is settled for this wait."""
    return is_paper_of(settled_question(term, lateness, wait), thing)


def may_be_known(world, lateness, moment, known):
    """The same as may_know, for a lateness that has all streams of the world."""
    for row in known.rows():
        if row not in world or row[1] > moment:
            return False
    late = [(name, row) for name, row in world.rows() if (name, row) not in known]
    return all([row + lateness[name] > moment for name, row in late])


def settled_question(term, lateness, wait):
    """The first step of the question whether the term is settled, if the arguments are right."""
    check_question(term, lateness, wait)
    needed = {name: lateness[name] for name in term.streams()}
    return settled_steps(term, first_late_case(needed, wait))


def check_question(term, lateness, wait):
    """Raise the error of the first wrong one."""
    check_one(term)
    check_lateness(term.streams(), lateness)
    check_bound(wait)


def check_lateness(names, lateness):
    """Raise Unknown or BadBound at the first of the ascending names whose lateness is missing or wrong."""
    for name in names:
        if name not in lateness:
            raise Unknown(name)
        check_bound(lateness[name])
