"""What the tests share."""

import itertools
import unittest

from pastlooks.terms import Look, Now
from pastlooks.worlds import World

BIG = 10 ** 6000  # more digits than Python writes by default
WAYS = ["at", "before", "since", "after"]

# Values of every built-in kind that are no names.
NO_NAMES = [
    "", "abcdefghijklm", "a" * 1000, "A", "aB", "a1", "1", "a b", " a", "a\n", "a_", "a.", "a-b", "\u00e9", "a\u00e9",
    "\u0430", "\u00df", "\u02b0", b"a", b"", 0, 1, -1, BIG, True, False, None, 1.5, float("nan"), 2j, [], ["a"], (),
    ("a",), ("a", 3), {}, {"a": 1}, set(), {"a"}, frozenset("a"), bytearray(b"a"), range(3), slice(0, 1), Ellipsis,
    len, str, object()]

# Values of every built-in kind that are no integers.
NO_INTEGERS = [True, False, None, 1.0, 0.0, float("inf"), 2j, "", "1", b"1", [], [1], (), (1,), {}, {1}, range(1),
               str, int, object()]

# Values of every built-in kind that are no integers from 0 on.
NO_COUNTS = [-1, -2, -BIG, *NO_INTEGERS]

NO_TERMS = [None, 0, 1, True, "now", b"", [], [Now()], (), {}, set(), World(), Now, object(), len]
NO_WORLDS = [None, 0, 1, True, "a", b"", [], [("a", 1)], (), {}, {"a": [1]}, set(), Now(), World, object()]


def nested_list(depth):
    held = []
    for _ in range(depth):
        held = [held]
    return held


def nested_tuple(depth):
    held = ()
    for _ in range(depth):
        held = (held,)
    return held


# Things of many built-in kinds that are no papers, no partings and no rings, whatever the terms are.
NO_PAPERS = [
    None, True, False, 0, 1, -1, BIG, 1.5, float("nan"), 2j, "", "fine", "ring", "cases", b"fine", [], ["fine"],
    ["ring", (0,)], ["cases", ()], (), ((),), ((), ()), ("fine", ()), ("fine", "fine"), (("fine",),), (b"fine",),
    ("Fine",), ("fin",), ("ring",), ("ring", ()), ("ring", []), ("ring", [0]), ("ring", 0), ("ring", None),
    ("ring", "0"), ("ring", (), ()), ("ring", (-1,)), ("ring", (None,)), ("ring", (BIG,)), ("ring", (1000,)),
    ("cases",), ("cases", []), ("cases", ()), ("cases", None), ("cases", {}), ("cases", (), ()), ("cases", ((),)),
    ("cases", (("fine",),) * 50), ("cases", [("fine",), ("fine",)]), ("beside",), ("beside", 1, 0),
    ("beside", 1, 0, ()), ("beside", 1, 0, (), ()), ("beside", None, None, None), ("beside", BIG, BIG, ()),
    ("beside", -1, -1, ()), {}, {"fine": 1}, set(), {"fine"}, frozenset(["fine"]), bytearray(b"fine"), range(3),
    slice(0, 1), Ellipsis, NotImplemented, len, str, tuple, iter(()), (0,) * 100000, [0] * 100000, "a" * 100000,
    nested_list(100000), nested_tuple(100000), ("cases", nested_tuple(100000)), ("ring", nested_tuple(100000)),
    ("beside", 1, 0, nested_tuple(100000)), ("beside", nested_tuple(100000), nested_tuple(100000), ())]


def look(stream="a", moment=None, way="at", within=None):
    return Look(stream, Now() if moment is None else moment, way, within=within)


def deep(depth):
    """A term of this depth: looks upon looks upon Now."""
    term = Now()
    for _ in range(depth - 1):
        term = look("a", term, "since")
    return term


def looks(count, stream="a"):
    """A flat term with this number of looks, each at Now: 3 * count - 1 parts."""
    parts = [look(stream) for _ in range(count)]
    while len(parts) > 1:
        parts = [parts[k] | parts[k + 1] if k + 1 < len(parts) else parts[k] for k in range(0, len(parts), 2)]
    return parts[0]


def nows(count):
    """A flat term of Now alone with this number of Nows: 2 * count - 1 parts."""
    parts = [Now() for _ in range(count)]
    while len(parts) > 1:
        parts = [parts[k] | parts[k + 1] if k + 1 < len(parts) else parts[k] for k in range(0, len(parts), 2)]
    return parts[0]


class PastTest(unittest.TestCase):
    """A test case that looks at an error's class, its attributes and their very values."""

    def raises(self, kind, deed, *args, **values):
        with self.assertRaises(kind) as caught:
            deed(*args)
        error = caught.exception
        self.assertEqual(error.__class__, kind)
        for name in values:
            held = getattr(error, name)
            if held is not values[name]:
                self.assertEqual(held.__class__, values[name].__class__)
                self.assertEqual(held, values[name])

    def same(self, found, wanted):
        """Equal, and of the same kinds: True is not 1 here."""
        self.assertEqual(found, wanted)
        self.assertEqual(kinds(found), kinds(wanted))


def kinds(thing):
    if isinstance(thing, (list, tuple)):
        return (thing.__class__, [kinds(entry) for entry in thing])
    return thing.__class__


def random_term(source, depth, names="ab", spread=3):
    """A term of at most this depth, with small numbers."""
    if depth == 1:
        return Now()
    kind = source.randrange(8)
    below = random_term(source, depth - 1, names, spread)
    if kind < 2:
        return below + source.randint(-spread, spread)
    if kind < 5:
        limit = source.choice([None, None, 0, 1, spread])
        return look(source.choice(names), below, source.choice(["at", "before", "since", "after"]), limit)
    beside = random_term(source, source.randint(1, depth - 1), names, spread)
    if kind == 5:
        return below | beside
    return below.later(beside) if kind == 6 else below.earlier(beside)


def random_world(source, most, spread, names="ab"):
    """A world with up to that many rows of each stream, none farther than spread from 0."""
    return World({name: source.sample(range(-spread, spread + 1), source.randint(0, most)) for name in names})


def worlds(names, most, spread):
    """All worlds of these streams with at most that many rows, none farther than spread from 0, the smallest first."""
    rows = [(name, moment) for name in names for moment in range(-spread, spread + 1)]
    for count in range(most + 1):
        for chosen in itertools.combinations(rows, count):
            yield World.of(list(chosen))


def random_pair(source, depth, names="ab", spread=2):
    """Two terms within the limits, often alike or nearly so."""
    while True:
        one = random_term(source, source.randint(1, depth), names, spread)
        other = one if source.randrange(3) == 0 else random_term(source, source.randint(1, depth), names, spread)
        if source.randrange(4) == 0:
            other = other | one if source.randrange(2) else one.earlier(other)
        if one.looks + other.looks <= 4 and one.choices + other.choices <= 6:
            return one, other


def small_terms():
    """Many small terms of one stream."""
    below = [Now(), Now() + 1]
    single = [look("a", moment, way, within) for moment in below for way in WAYS for within in (None, 0, 1)]
    pairs = [look("a", look("a", Now(), way), other) for way in WAYS for other in WAYS]
    mixed = []
    for way in WAYS:
        mixed += [look(way=way) | Now(), look(way=way).later(Now()), look(way=way).earlier(Now()), look(way=way) - 1,
                  Now() | look(way=way), look("b", way=way), look(way=way) | look(way=way, within=1)]
    return below + [Now() - 1] + single + pairs + mixed
