"""The cases that can occur while terms are evaluated in an unknown world."""


class Case:
    """Facts, rows and stretches of a case; none of them is ever changed.

    The attribute owners has an entry for each variable: the stream of a row,
    or None for a moment that is no row. A stretch is a tuple of a stream, a
    low end and a high end; an end is None or a pair of a variable and an
    integer, and so is an answer.
    """

    def __init__(self, facts, owners, stretches):
        self.facts = facts
        self.owners = owners
        self.stretches = stretches

    def with_facts(self, facts):
        """The case with more facts."""
        return Case(self.facts + facts, self.owners, self.stretches)

    def with_new_row(self, stream):
        """The case with a new row."""
        return Case(self.facts, [*self.owners, stream], self.stretches)

    def with_stretch(self, stream, low, high):
        """The case with one more stretch without rows."""
        return Case(self.facts, self.owners, [*self.stretches, (stream, low, high)])

    def rows_of(self, stream):
        """The ascending list of the variables of the stream's rows."""
        return [variable for variable, owner in enumerate(self.owners) if owner == stream]

    def row_count(self):
        """The number of all rows."""
        return len([owner for owner in self.owners if owner is not None])


def look_branches(look, case, moment):
    """The cases of the look's choice, each with the look's answer (points 26 and 27)."""
    branches = [(nothing_found(look, case, moment), None)]
    for row in case.rows_of(look.stream):
        branches.append((row_found_at(look, case, moment, row), (row, 0)))
    row = len(case.owners)
    wider = case.with_new_row(look.stream)
    branches.append((row_found_at(look, wider, moment, row), (row, 0)))
    return branches


def is_backward(look):
    """Whether the look finds rows ahead of its moment."""
    return look.way in ("at", "before")


def nearest(look, moment):
    """Where a row would be nearest to the look's moment."""
    variable, amount = moment
    if look.way == "before":
        return (variable, amount - 1)
    if look.way == "after":
        return (variable, amount + 1)
    return moment


def nothing_found(look, case, moment):
    """The case in which the look finds no row from the moment."""
    variable, amount = moment
    near = nearest(look, moment)
    if is_backward(look):
        far = None if look.within is None else (variable, amount - look.within)
        return case.with_stretch(look.stream, far, near)
    far = None if look.within is None else (variable, amount + look.within)
    return case.with_stretch(look.stream, near, far)


def row_found_at(look, case, moment, row):
    """The case in which the look finds this row from the moment."""
    variable, amount = moment
    near = nearest(look, moment)
    if is_backward(look):
        facts = [(row, variable, near[1])]
        limit = (variable, row, None if look.within is None else look.within - amount)
        low, high = (row, 1), near
    else:
        facts = [(variable, row, -near[1])]
        limit = (row, variable, None if look.within is None else amount + look.within)
        low, high = near, (row, -1)
    if look.within is not None:
        facts.append(limit)
    return case.with_facts(facts).with_stretch(look.stream, low, high)


def order_branches(is_later, case, one, other):
    """The cases of the choice of later or earlier between two answers."""
    v, s = one
    u, t = other
    if is_later:
        facts = [(u, v, s - t), (v, u, t - s - 1)]
    else:
        facts = [(v, u, t - s), (u, v, s - t - 1)]
    return [(case.with_facts([facts[0]]), one), (case.with_facts([facts[1]]), other)]


def unequal_branches(case, one, other):
    """The cases of the choice that two different answers leave (point 28)."""
    v, s = one
    u, t = other
    facts = [(v, u, t - s - 1), (u, v, s - t - 1)]
    return [(case.with_facts([fact]), None) for fact in facts]


def beside_facts(case, row, stretch):
    """The facts of which one holds if the row lies ahead of the stretch or behind it (point 29)."""
    low, high = case.stretches[stretch][1:]
    facts = []
    if low is not None:
        facts.append((row, low[0], low[1] - 1))
    if high is not None:
        facts.append((high[0], row, -high[1] - 1))
    return facts
