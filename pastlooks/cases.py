"""The cases that can occur while terms are evaluated in an unknown world."""

from pastlooks.lookup import BACKWARD

NOW = 0  # the variable of the asked moment
KNOWING = 1  # in the question settled, the variable of the moment of knowing

ROW = "row"  # a row in the questions of two terms, which do not ask what is known
KNOWN = "known"
UNKNOWN = "unknown"


class Going:
    """A going through a term: it finds rows of the sorts that it has, and no others.

    The attribute lateness has the lateness of each stream that may have
    unknown rows.
    """

    def __init__(self, sorts, lateness):
        self.sorts = sorts
        self.lateness = {name: lateness[name] for name in lateness}

    def first_facts(self, stream, sort, row):
        """The facts of a new row of this sort that stand ahead of those of the look (point 34)."""
        if sort == KNOWN:
            return [(row, KNOWING, 0)]
        if sort == UNKNOWN:
            return [(KNOWING, row, self.lateness[stream] - 1)]
        return []


class Case:
    """Facts, rows and stretches of a case, and the present going; none of them is ever changed.

    The attribute owners has an entry for each variable: a pair of the stream
    and the sort of a row, or None for a moment that is no row. A stretch is a
    tuple of a stream, a low end, a high end, and the sorts of the rows that do
    not lie in it; an end is None or a pair of a variable and an integer, and
    so is an answer.
    """

    def __init__(self, facts, owners, stretches, going):
        self.facts = facts
        self.owners = owners
        self.stretches = stretches
        self.going = going

    def with_facts(self, facts):
        """The case with more facts."""
        return Case(self.facts + facts, self.owners, self.stretches, self.going)

    def with_new_row(self, stream, sort):
        """The case with a new row of this sort."""
        facts = self.going.first_facts(stream, sort, len(self.owners))
        return Case(self.facts + facts, [*self.owners, (stream, sort)], self.stretches, self.going)

    def with_stretch(self, stream, low, high):
        """The case with one more stretch, in which the present going finds no row."""
        stretches = [*self.stretches, (stream, low, high, self.going.sorts)]
        return Case(self.facts, self.owners, stretches, self.going)

    def with_going(self, going):
        """The case with another going."""
        return Case(self.facts, self.owners, self.stretches, going)

    def rows_of(self, stream, sorts):
        """The ascending list of the variables of the stream's rows of these sorts."""
        owners = [(stream, sort) for sort in sorts]
        return [variable for variable, owner in enumerate(self.owners) if owner in owners]

    def rows_beside(self, stretch):
        """The ascending list of the variables of the rows that do not lie in the stretch with this number."""
        stream, low, high, sorts = self.stretches[stretch]
        return self.rows_of(stream, sorts)

    def row_count(self):
        """The number of all rows."""
        return len([owner for owner in self.owners if owner is not None])


def first_case():
    """The case from which the questions of two terms start."""
    return Case([], [None], [], Going((ROW,), {}))


def first_late_case(lateness, wait):
    """The case from which the question settled starts: the term is gone through on the known rows."""
    return Case([(NOW, KNOWING, -wait)], [None, None], [], Going((KNOWN,), lateness))


def on_all_rows(case):
    """The case in which the term is gone through for the second time, on all rows."""
    return case.with_going(Going((KNOWN, UNKNOWN), case.going.lateness))


def look_branches(look, case, moment):
    """The cases of the look's choice, each with the look's answer (points 26, 27 and 34)."""
    branches = [(nothing_found(look, case, moment), None)]
    for row in case.rows_of(look.stream, case.going.sorts):
        branches.append((row_found_at(look, case, moment, row), (row, 0)))
    row = len(case.owners)
    for sort in case.going.sorts:
        wider = case.with_new_row(look.stream, sort)
        branches.append((row_found_at(look, wider, moment, row), (row, 0)))
    return branches


def nearest(look, moment):
    """Where a row would be nearest to the look's moment."""
    variable, amount = moment
    if look.way == "before":
        return (variable, amount - 1)
    if look.way == "after":
        return (variable, amount + 1)
    return moment


def nothing_found(look, case, moment):
    """The case in which the look finds no row from the moment."""
    variable, amount = moment
    near = nearest(look, moment)
    if look.way in BACKWARD:
        far = None if look.within is None else (variable, amount - look.within)
        return case.with_stretch(look.stream, far, near)
    far = None if look.within is None else (variable, amount + look.within)
    return case.with_stretch(look.stream, near, far)


def row_found_at(look, case, moment, row):
    """The case in which the look finds this row from the moment."""
    variable, amount = moment
    near = nearest(look, moment)
    if look.way in BACKWARD:
        facts = [(row, variable, near[1])]
        limit = (variable, row, None if look.within is None else look.within - amount)
        low, high = (row, 1), near
    else:
        facts = [(variable, row, -near[1])]
        limit = (row, variable, None if look.within is None else amount + look.within)
        low, high = near, (row, -1)
    if look.within is not None:
        facts.append(limit)
    return case.with_facts(facts).with_stretch(look.stream, low, high)


def order_branches(is_later, case, one, other):
    """The cases of the choice of later or earlier between two answers."""
    v, s = one
    u, t = other
    if is_later:
        facts = [(u, v, s - t), (v, u, t - s - 1)]
    else:
        facts = [(v, u, t - s), (u, v, s - t - 1)]
    return [(case.with_facts([facts[0]]), one), (case.with_facts([facts[1]]), other)]


def unequal_branches(case, one, other):
    """The cases of the choice that two different answers leave (point 28)."""
    v, s = one
    u, t = other
    facts = [(v, u, t - s - 1), (u, v, s - t - 1)]
    return [(case.with_facts([fact]), None) for fact in facts]


def beside_facts(case, row, stretch):
    """The facts of which one holds if the row lies ahead of the stretch or behind it (point 29)."""
    low, high = case.stretches[stretch][1:3]
    facts = []
    if low is not None:
        facts.append((row, low[0], low[1] - 1))
    if high is not None:
        facts.append((high[0], row, -high[1] - 1))
    return facts
