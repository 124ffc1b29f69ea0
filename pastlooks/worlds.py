"""Worlds: the rows of all streams."""

from pastlooks.checks import check_moment, check_name, is_integer, is_name
from pastlooks.errors import BadRows, BadWorld, TooMany

MOST_ROWS = 300


class World:
    """The rows of all streams, at most 300.

    The attribute held is a dict from the names of the streams that have rows
    to the ascending lists of their moments. Neither this dict nor its lists
    are ever changed, only replaced as a whole: a world stays as it was behind
    an error and behind a trial, because its dict is still there.
    """

    def __init__(self, rows=None):
        self.held = {}
        if rows is not None:
            self.held = limited(checked_rows(rows))

    @classmethod
    def of(cls, pairs):
        """The world of a list of pairs of a name and a moment."""
        found = {}
        for name, moment in pairs:
            check_name(name)
            check_moment(moment)
            found.setdefault(name, []).append(moment)
        return cls({name: sorted(set(found[name])) for name in found})

    def names(self):
        """The ascending list of the names of the streams that have rows."""
        return sorted(self.held)

    def rows(self):
        """All rows as pairs, ordered by name, then by moment."""
        return [(name, moment) for name in self.names() for moment in self.held[name]]

    def copy(self):
        """A new world with the same rows."""
        return World(self.held)

    def with_row(self, name, moment):
        """A new world with the same rows and this one."""
        check_name(name)
        check_moment(moment)
        return World(joined(self.held, {name: [moment]}))

    def trial(self, rows, deed):
        """What deed returns for this world with more rows, which then go again."""
        held = self.held
        self.held = limited(joined(held, checked_rows(rows)))
        try:
            return deed(self)
        finally:
            self.held = held

    def __getitem__(self, at):
        check_name(at)
        return list(self.held.get(at, []))

    def __setitem__(self, at, worth):
        check_name(at)
        given = checked_rows({at: worth})
        others = {name: self.held[name] for name in self.held if name != at}
        self.held = limited(joined(others, given))

    def __contains__(self, x):
        if is_name(x):
            return x in self.held
        if not isinstance(x, tuple) or len(x) != 2:
            return False
        name, moment = x
        return is_name(name) and is_integer(moment) and moment in self.held.get(name, [])

    def __len__(self):
        return len(self.rows())

    def __or__(self, other):
        check_world(other)
        return World(joined(self.held, other.held))

    def __ior__(self, other):
        check_world(other)
        self.held = limited(joined(self.held, other.held))
        return self

    def __eq__(self, other):
        return isinstance(other, World) and self.held == other.held

    def __iter__(self):
        # Python would otherwise ask for world[0], world[1] and so on.
        raise TypeError("a world is not iterated over: take its names or its rows")


def check_world(value):
    """Raise BadWorld unless this is a world."""
    if not isinstance(value, World):
        raise BadWorld(value)


def is_list_of_moments(thing):
    """Whether the thing is a list of integers without duplicates."""
    if not isinstance(thing, list):
        return False
    return all([is_integer(entry) for entry in thing]) and len(set(thing)) == len(thing)


def checked_rows(rows):
    """The rows of a dict, sorted and without empty streams, or its error."""
    checked = {}
    for name in rows:
        check_name(name)
        if not is_list_of_moments(rows[name]):
            raise BadRows(name)
        if rows[name]:
            checked[name] = sorted(rows[name])
    return checked


def joined(one, other):
    """The rows of both dicts as a new dict."""
    both = dict(one)
    for name in other:
        both[name] = sorted(set(both.get(name, []) + other[name]))
    return both


def limited(held):
    """The rows that a world is to hold, unless they are too many."""
    if sum([len(held[name]) for name in held]) > MOST_ROWS:
        raise TooMany()
    return held
