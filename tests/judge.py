"""A second judge of papers, for the tests of the first one.

It is written down from points 25 to 30 and 34 in another way: it plays each
way through the cases anew, from the top of the paper on, with a list that says
which case is taken at each choice.
"""

from pastlooks.terms import Either, Later, Look, Now, Shift


class Stop(Exception):
    """There is a choice of so many cases, and nothing says which one is taken."""

    def __init__(self, count):
        super().__init__(count)
        self.count = count


class Way:
    """One way through the cases, with all that was added on it."""

    def __init__(self, taken):
        self.taken = list(taken)
        self.facts = []
        self.rows = {}  # from variables to streams
        self.unknown = set()  # the variables of the unknown rows
        self.stretches = []
        self.variables = 1
        self.news = ["plain"]  # what kinds of new rows there are
        self.lateness = None

    def case(self, count):
        if not self.taken:
            raise Stop(count)
        return self.taken.pop(0)

    def answer(self, term):
        if isinstance(term, Now):
            return 0, 0
        if isinstance(term, Shift):
            found = self.answer(term.moment)
            return None if found is None else (found[0], found[1] + term.amount)
        if isinstance(term, Look):
            found = self.answer(term.moment)
            return None if found is None else self.looked(term, *found)
        one = self.answer(term.first)
        if isinstance(term, Either):
            return one if one is not None else self.answer(term.second)
        if one is None:
            return None
        other = self.answer(term.second)
        if other is None:
            return None
        (v, s), (u, t) = one, other
        if self.case(2) == 0:
            self.facts.append((u, v, s - t) if isinstance(term, Later) else (v, u, t - s))
            return one
        self.facts.append((v, u, t - s - 1) if isinstance(term, Later) else (u, v, s - t - 1))
        return other

    def looked(self, look, v, s):
        before = [row for row in sorted(self.rows) if self.rows[row] == look.stream]
        case = self.case(1 + len(before) + len(self.news))
        known_only = self.news == ["known"]
        w = look.within
        if case == 0:
            low, high = {
                "at": (None if w is None else (v, s - w), (v, s)),
                "before": (None if w is None else (v, s - w), (v, s - 1)),
                "since": ((v, s), None if w is None else (v, s + w)),
                "after": ((v, s + 1), None if w is None else (v, s + w))}[look.way]
            self.stretches.append((look.stream, low, high, known_only))
            return None
        if case <= len(before):
            x = before[case - 1]
        else:
            x = self.variables
            self.variables += 1
            self.rows[x] = look.stream
            kind = self.news[case - len(before) - 1]
            if kind == "known":
                self.facts.append((x, 1, 0))
            elif kind == "unknown":
                self.unknown.add(x)
                self.facts.append((1, x, self.lateness[look.stream] - 1))
        self.facts.append({"at": (x, v, s), "before": (x, v, s - 1), "since": (v, x, -s),
                           "after": (v, x, -s - 1)}[look.way])
        if w is not None:
            self.facts.append((v, x, w - s) if look.way in ("at", "before") else (x, v, s + w))
        low, high = {"at": ((x, 1), (v, s)), "before": ((x, 1), (v, s - 1)), "since": ((v, s), (x, -1)),
                     "after": ((v, s + 1), (x, -1))}[look.way]
        self.stretches.append((look.stream, low, high, known_only))
        return x, 0


def alike_end(way, one, other):
    return compared(way, way.answer(one), way.answer(other))


def compared(way, first, second):
    if first is None and second is None:
        return "fine"
    if first is not None and second is not None:
        (v, s), (u, t) = first, second
        way.facts.append((v, u, t - s - 1) if way.case(2) == 0 else (u, v, s - t - 1))
    return "end"


def covers_end(way, one, other):
    if way.answer(other) is None:
        return "fine"
    return "end" if way.answer(one) is None else "fine"


def most_end(n):
    def end(way, one, other):
        first = way.answer(one)
        second = None if first is None else way.answer(other)
        if second is None:
            return "fine"
        (v, s), (u, t) = first, second
        way.facts.append((u, v, s - t - n - 1))
        return "end"

    return end


def settled_end(lateness, wait):
    def end(way, term, again):
        way.variables = 2
        way.facts.append((0, 1, -wait))
        way.lateness = lateness
        way.news = ["known"]
        first = way.answer(term)
        way.news = ["known", "unknown"]
        return compared(way, first, way.answer(again))

    return end


def outcome(end, one, other, taken):
    """The way, and "fine", "end" or the number of cases of the next choice."""
    way = Way(taken)
    try:
        return way, end(way, one, other)
    except Stop as stop:
        return way, stop.count


def is_number(thing):
    return thing.__class__ is int


def is_tuple(thing, word, length):
    return thing.__class__ is tuple and len(thing) == length and thing[0].__class__ is str and thing[0] == word


def is_ring(facts, thing):
    if not is_tuple(thing, "ring", 2) or thing[1].__class__ is not tuple or not thing[1]:
        return False
    if not all(is_number(index) and 0 <= index < len(facts) for index in thing[1]):
        return False
    chosen = [facts[index] for index in thing[1]]
    return all(chosen[k - 1][1] == chosen[k][0] for k in range(len(chosen))) and sum(c for _, _, c in chosen) < 0


def is_beside(way, facts, pairs, thing):
    """Whether the thing closes the end of the way by a ring or by a "beside" paper."""
    if is_ring(facts, thing):
        return True
    if not is_tuple(thing, "beside", 4):
        return False
    _, row, stretch, papers = thing
    if not is_number(row) or not is_number(stretch) or row not in way.rows:
        return False
    if not 0 <= stretch < len(way.stretches) or (row, stretch) in pairs:
        return False
    stream, low, high, known_only = way.stretches[stretch]
    if known_only and row in way.unknown:
        return False
    added = [] if low is None else [(row, low[0], low[1] - 1)]
    added += [] if high is None else [(high[0], row, -high[1] - 1)]
    if way.rows[row] != stream or papers.__class__ is not tuple or len(papers) != len(added):
        return False
    return all(is_beside(way, facts + [fact], pairs | {(row, stretch)}, paper) for fact, paper in zip(added, papers))


def judge(end, one, other, thing, taken=()):
    """Whether the thing is a paper for the question with this end."""
    way, what = outcome(end, one, other, taken)
    if is_ring(way.facts, thing):
        return True
    if what == "fine":
        return is_tuple(thing, "fine", 1)
    if what == "end":
        return is_beside(way, way.facts, frozenset(), thing)
    if not is_tuple(thing, "cases", 2) or thing[1].__class__ is not tuple or len(thing[1]) != what:
        return False
    return all(judge(end, one, other, paper, (*taken, case)) for case, paper in enumerate(thing[1]))


FINE = ("fine",)


def cases(*papers):
    return ("cases", papers)


def ring(*indexes):
    return ("ring", indexes)


def beside(row, stretch, *papers):
    return ("beside", row, stretch, papers)


def with_paper(thing, path, paper_there):
    """The paper with another one behind the cases of this path."""
    if not path:
        return paper_there
    papers = list(thing[1])
    papers[path[0]] = with_paper(papers[path[0]], path[1:], paper_there)
    return cases(*papers)


WORDS = ["fine", "ring", "cases", "beside"]
SMALL = [("fine",), ("ring", (0,)), ("ring", (0, 1)), ("ring", (1, 0)), ("ring", (2, 1, 0)), ("beside", 1, 0, ()),
         (), 0]


def changed(thing):
    """The thing with one of its entries, at any depth, changed, left out, doubled or moved."""
    for place in range(len(thing)):
        entry = thing[place]
        before, after = thing[:place], thing[place + 1:]
        others = [*SMALL, None, [entry]]
        if isinstance(entry, int):
            others = [entry - 1, entry + 1, entry + 2, -entry - 1, bool(entry), float(entry), str(entry), (entry,)]
        elif isinstance(entry, str):
            others = [word for word in WORDS if word != entry] + [entry.encode(), entry + " ", None, 0]
        else:
            others += [list(entry), *changed(entry)]
            others += [inner for inner in entry if isinstance(inner, tuple)]
        for other in others:
            yield (*before, other, *after)
        yield before + after
        yield (*before, entry, entry, *after)
        if after:
            yield (*before, after[0], entry, *after[1:])
