"""Going through terms, from one choice of cases to the next one (points 26, 28 and 34).

A step is a Choice, a Fine or an End. The functions with the name `then` get a
case and an answer, and give the next step.
"""

from pastlooks.cases import KNOWING, NOW, look_branches, on_all_rows, order_branches, unequal_branches
from pastlooks.terms import Either, Later, Look, Now, Shift


class Choice:
    """A choice of cases: branches is a list of pairs of a case and an answer, then leads on from each."""

    def __init__(self, case, branches, then):
        self.case = case
        self.branches = branches
        self.then = then

    def next_step(self, index):
        """The step behind the branch with this index."""
        case, answer = self.branches[index]
        then = self.then
        return then(case, answer)


class Fine:
    """A case in which nothing is left to show."""

    def __init__(self, case):
        self.case = case


class End:
    """A case that was gone through to its end, and that is to be closed.

    The attribute span is None, or a pair of answers: how far the first one can
    lie behind the second one in an open case.
    """

    def __init__(self, case, span):
        self.case = case
        self.span = span


def gone(term, case, then):
    """The step to which going through the term leads; then gets its answer."""
    if isinstance(term, Now):
        return then(case, (0, 0))
    if isinstance(term, Shift):
        return gone_shift(term, case, then)
    if isinstance(term, Look):
        return gone_look(term, case, then)
    if isinstance(term, Either):
        return gone_either(term, case, then)
    return gone_both(term, case, then)


def gone_shift(term, case, then):
    """The step to which a shift leads."""

    def from_moment(below, moment):
        if moment is None:
            return then(below, None)
        return then(below, (moment[0], moment[1] + term.amount))

    return gone(term.moment, case, from_moment)


def gone_look(term, case, then):
    """The step to which a look leads."""

    def from_moment(below, moment):
        if moment is None:
            return then(below, None)
        return Choice(below, look_branches(term, below, moment), then)

    return gone(term.moment, case, from_moment)


def gone_either(term, case, then):
    """The step to which one | other leads."""

    def from_first(below, one):
        if one is None:
            return gone(term.second, below, then)
        return then(below, one)

    return gone(term.first, case, from_first)


def gone_both(term, case, then):
    """The step to which later or earlier leads."""

    def from_first(below, one):
        if one is None:
            return then(below, None)

        def from_second(lower, other):
            if other is None:
                return then(lower, None)
            return Choice(lower, order_branches(isinstance(term, Later), lower, one, other), then)

        return gone(term.second, below, from_second)

    return gone(term.first, case, from_first)


def unequal_end(case, first, second, span):
    """The step behind two answers that are to be the same (point 28)."""
    if first is None and second is None:
        return Fine(case)
    if first is None or second is None:
        return End(case, span)

    def ended(lower, answer):
        return End(lower, span)

    return Choice(case, unequal_branches(case, first, second), ended)


def alike_steps(one, other, case):
    """The first step of the question whether one and other are alike."""

    def from_one(below, first):

        def from_other(lower, second):
            return unequal_end(lower, first, second, None)

        return gone(other, below, from_other)

    return gone(one, case, from_one)


def covers_steps(one, other, case):
    """The first step of the question whether one covers other."""

    def from_one(below, first):
        return End(below, None) if first is None else Fine(below)

    def from_other(below, second):
        if second is None:
            return Fine(below)
        return gone(one, below, from_one)

    return gone(other, case, from_other)


def lead_steps(one, other, case, finish):
    """The first step of a question about the answers where both have one; finish gets them."""

    def from_one(below, first):
        if first is None:
            return Fine(below)

        def from_other(lower, second):
            return Fine(lower) if second is None else finish(lower, first, second)

        return gone(other, below, from_other)

    return gone(one, case, from_one)


def most_steps(one, other, n, case):
    """The first step of the question whether one minus other is at most n."""

    def from_both(lower, first, second):
        v, s = first
        u, t = second
        return End(lower.with_facts([(u, v, s - t - n - 1)]), None)

    return lead_steps(one, other, case, from_both)


def span_steps(one, other, case):
    """The first step of the question how far one can lie behind other."""

    def from_both(lower, first, second):
        return End(lower, (first, second))

    return lead_steps(one, other, case, from_both)


def settled_steps(term, case):
    """The first step of the question whether the term is settled; its ends span the wait."""
    span = ((KNOWING, 0), (NOW, 0))

    def from_known(below, first):

        def from_all(lower, second):
            return unequal_end(lower, first, second, span)

        return gone(term, on_all_rows(below), from_all)

    return gone(term, case, from_known)
