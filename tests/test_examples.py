"""The examples of the document, each one alone."""

import unittest

from pastlooks.errors import BadRows, BadText, Unlike
from pastlooks.facts import bound, is_ring
from pastlooks.leads import age, is_lead_paper, lead
from pastlooks.leaner import leaner
from pastlooks.pieces import changes, pieces
from pastlooks.terms import Look, Now, Stream, told
from pastlooks.texts import parse, spelled
from pastlooks.verdicts import alike, paper, parting
from pastlooks.waits import least_wait, may_know, unsettled
from pastlooks.worlds import World
from support import PastTest


class Examples(PastTest):

    def test_told(self):
        self.same(told(Look("a", Now(), "at"), World({"a": [3, 8]}), 7), 3)

    def test_told_within(self):
        self.assertIsNone(told(Look("a", Now(), "at", within=3), World({"a": [3, 8]}), 7))

    def test_calling_a_term(self):
        term = Look("a", Now(), "after") | Now()
        self.same(term(World({"a": [3]}), 5), 5)

    def test_shifts(self):
        term = Now() + 3 - 5
        self.same([term.amount, term.depth, term.parts], [-2, 2, 2])

    def test_a_stream(self):
        stream = Stream("a", limit=4)
        look = stream.after(Now())
        stream.limit = None
        self.same([look.way, look.within, stream.at(look).within], ["after", 4, None])

    def test_a_world(self):
        world = World({"b": [5, 2]})
        world["a"] = [7]
        self.same(world.rows(), [("a", 7), ("b", 2), ("b", 5)])

    def test_wrong_rows(self):
        self.raises(BadRows, World, {"a": [3, 3]}, name="a")

    def test_pieces(self):
        self.same(pieces(Now().earlier(Look("a", Now(), "since") - 2), World({"a": [4]})), [
            (None, 2, "shift", 0), (3, 4, "row", 2), (5, None, "none", None)])

    def test_changes(self):
        self.same(changes(Look("a", Now(), "at"), World({"a": [2, 9]}), "a", 5), [(5, 8)])

    def test_is_ring(self):
        self.same(is_ring([(0, 1, 2), (1, 0, -3)], (1, 0)), True)

    def test_bound(self):
        self.same(bound(3, [(0, 1, 2), (1, 2, 4)], 0, 2), 6)

    def test_alike(self):
        self.same(alike(Look("a", Now() + 1, "before"), Look("a", Now(), "at")), True)

    def test_parting(self):
        one = Look("a", Now(), "at")
        other = Look("a", Now(), "before")
        world, now = parting(one, other)
        self.same([len(world), one(world, now) == other(world, now)], [1, False])

    def test_paper(self):
        self.raises(Unlike, paper, Now(), Now() + 1)

    def test_age(self):
        self.same(age(Look("a", Now(), "at", within=5)), ("most", 5))

    def test_lead(self):
        self.same(lead(Look("a", Now(), "since"), Now()), ("endless", None))

    def test_is_lead_paper(self):
        term = Look("a", Now(), "at", within=5)
        paper = ("cases", (("fine",), ("ring", (1, 2))))
        self.same(is_lead_paper(Now(), term, 5, paper), True)

    def test_may_know(self):
        self.same(may_know(World({"a": [1, 5]}), {"a": 2}, 6, World({"a": [1]})), True)

    def test_least_wait(self):
        self.same(least_wait(Look("a", Now(), "at"), {"a": 3}), 3)

    def test_an_endless_wait(self):
        self.assertIsNone(least_wait(Look("a", Now(), "since"), {"a": 0}))

    def test_unsettled(self):
        world, known, now, moment = unsettled(Look("a", Now(), "at"), {"a": 3}, 2)
        self.same([len(world), len(known), moment - now], [1, 0, 2])

    def test_leaner(self):
        self.same(leaner(Look("a", Now(), "at") | Look("a", Now(), "at")), [((), 0), ((), 1)])

    def test_spelled(self):
        self.same(spelled(Look("a", Now() - 3, "at", within=5)), "last a within 5 at (now - 3)")

    def test_a_text_that_ends(self):
        self.raises(BadText, parse, "last a at later(now", place=19)

    def test_a_wrong_text(self):
        self.raises(BadText, parse, "next abc at now", place=10)


if __name__ == "__main__":
    unittest.main()
