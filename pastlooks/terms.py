"""Terms: questions about the rows around one asked moment."""

from pastlooks.checks import check_limit, check_moment, check_name, is_count
from pastlooks.errors import BadPath, BadTerm, BadWay, TooMany
from pastlooks.lookup import WAYS, row_within
from pastlooks.worlds import check_world

MOST_DEPTH = 12
MOST_PARTS = 40
MOST_LOOKS = 12


class Term:
    """The base class of the terms.

    Each kind of term has a method own_values, which tells it from other terms
    with the same children, and a method answer, which is told without its
    checks. Each kind with children has a method rebuilt: the same term with
    other children.
    """

    def __init__(self, children, looks, choices):
        """Looks and choices are passed without those of the children."""
        self.children = children
        self.depth = 1 + max([child.depth for child in children], default=0)
        self.parts = 1 + sum([child.parts for child in children])
        self.looks = looks + sum([child.looks for child in children])
        self.choices = choices + sum([child.choices for child in children])
        if self.depth > MOST_DEPTH or self.parts > MOST_PARTS or self.looks > MOST_LOOKS:
            raise TooMany()

    def __add__(self, other):
        check_moment(other)
        return shifted(self, other)

    def __sub__(self, other):
        check_moment(other)
        return shifted(self, -other)

    def __or__(self, other):
        check_term(other)
        return Either(self, other)

    def later(self, other):
        """The later one of both answers."""
        check_term(other)
        return Later(self, other)

    def earlier(self, other):
        """The earlier one of both answers."""
        check_term(other)
        return Earlier(self, other)

    def __eq__(self, other):
        if not isinstance(other, Term):
            return False
        return self.own_values() == other.own_values() and self.children == other.children

    def __call__(self, world, now):
        return told(self, world, now)

    def streams(self):
        """The ascending list of the names of all streams that the looks have."""
        return sorted({part.stream for part in all_parts(self) if isinstance(part, Look)})

    def part_paths(self):
        """The paths of all parts, ascending."""
        yield ()
        for index, child in enumerate(self.children):
            for path in child.part_paths():
                yield (index, *path)

    def part_at(self, path):
        """The part at the path."""
        if not isinstance(path, tuple):
            raise BadPath(path)
        part = self
        for index in path:
            if not is_count(index) or index >= len(part.children):
                raise BadPath(path)
            part = part.children[index]
        return part

    def with_part(self, path, other):
        """The term in which the part at the path is replaced by the other term."""
        # Only for its error: a wrong path comes before a wrong term.
        self.part_at(path)
        check_term(other)
        return replaced(self, path, other)


class Now(Term):
    """The asked moment."""

    def __init__(self):
        Term.__init__(self, (), 0, 0)

    def own_values(self):
        return ("now",)

    def answer(self, world, now):
        return now


class Shift(Term):
    """The answer of a term plus an amount; made by + and - only."""

    def __init__(self, moment, amount):
        self.moment = moment
        self.amount = amount
        Term.__init__(self, (moment,), 0, 0)

    def own_values(self):
        return ("shift", self.amount)

    def rebuilt(self, children):
        # By + and not by Shift: the new child may be a shift itself.
        return shifted(children[0], self.amount)

    def answer(self, world, now):
        moment = self.moment.answer(world, now)
        if moment is None:
            return None
        return moment + self.amount


class Look(Term):
    """A row of a stream, looked up from the answer of a term."""

    def __init__(self, stream, moment, way, *, within=None):
        check_name(stream)
        check_term(moment)
        if not isinstance(way, str) or way not in WAYS:
            raise BadWay(way)
        check_limit(within)
        self.stream = stream
        self.moment = moment
        self.way = way
        self.within = within
        Term.__init__(self, (moment,), 1, 1)

    def own_values(self):
        return ("look", self.stream, self.way, self.within)

    def rebuilt(self, children):
        return Look(self.stream, children[0], self.way, within=self.within)

    def answer(self, world, now):
        moment = self.moment.answer(world, now)
        if moment is None:
            return None
        return row_within(world[self.stream], self.way, self.within, moment)


class Either(Term):
    """The answer of first, or else that of second; made by | only."""

    def __init__(self, first, second):
        self.first = first
        self.second = second
        Term.__init__(self, (first, second), 0, 0)

    def own_values(self):
        return ("either",)

    def rebuilt(self, children):
        return Either(children[0], children[1])

    def answer(self, world, now):
        one = self.first.answer(world, now)
        if one is None:
            return self.second.answer(world, now)
        return one


class Later(Term):
    """The greater one of both answers; made by the method later only."""

    def __init__(self, first, second):
        self.first = first
        self.second = second
        Term.__init__(self, (first, second), 0, 1)

    def own_values(self):
        return ("later",)

    def rebuilt(self, children):
        return Later(children[0], children[1])

    def answer(self, world, now):
        both = both_answers(self, world, now)
        return None if both is None else max(both)


class Earlier(Term):
    """The smaller one of both answers; made by the method earlier only."""

    def __init__(self, first, second):
        self.first = first
        self.second = second
        Term.__init__(self, (first, second), 0, 1)

    def own_values(self):
        return ("earlier",)

    def rebuilt(self, children):
        return Earlier(children[0], children[1])

    def answer(self, world, now):
        both = both_answers(self, world, now)
        return None if both is None else min(both)


class Stream:
    """Makes looks of one stream, with a limit that may change from look to look."""

    def __init__(self, name, *, limit=None):
        check_name(name)
        self.name = name
        self.limit = limit

    @property
    def limit(self):
        """What the next looks get as their within."""
        return self.present_limit

    @limit.setter
    def limit(self, value):
        check_limit(value)
        self.present_limit = value

    def limit_to(self, value):
        """Set the limit."""
        self.limit = value

    def at(self, moment):
        """The last row at or before the moment."""
        return Look(self.name, moment, "at", within=self.limit)

    def before(self, moment):
        """The last row before the moment."""
        return Look(self.name, moment, "before", within=self.limit)

    def since(self, moment):
        """The first row at or after the moment."""
        return Look(self.name, moment, "since", within=self.limit)

    def after(self, moment):
        """The first row after the moment."""
        return Look(self.name, moment, "after", within=self.limit)


def told(term, world, now):
    """The answer of the term in the world at the asked moment, or None."""
    check_term(term)
    check_world(world)
    check_moment(now)
    return term.answer(world, now)


def check_term(value):
    """Raise BadTerm unless this is a term."""
    if not isinstance(value, Term):
        raise BadTerm(value)


def shifted(term, amount):
    """The term plus the amount; shifts are joined, and a shift by 0 vanishes."""
    if amount == 0:
        return term
    if isinstance(term, Shift):
        return shifted(term.moment, term.amount + amount)
    return Shift(term, amount)


def all_parts(term):
    """The term and all parts of its children."""
    found = [term]
    for child in term.children:
        found.extend(all_parts(child))
    return found


def replaced(term, path, other):
    """The term with the other one at the path, which leads to a part."""
    if not path:
        return other
    children = list(term.children)
    children[path[0]] = replaced(children[path[0]], path[1:], other)
    return term.rebuilt(children)


def both_answers(term, world, now):
    """The answers of first and second, or None if one of them has none."""
    one = term.first.answer(world, now)
    if one is None:
        return None
    other = term.second.answer(world, now)
    if other is None:
        return None
    return [one, other]
