"""The examples of the document, each one alone."""

import unittest

from pastlooks.errors import BadRows
from pastlooks.terms import Look, Now, Stream, told
from pastlooks.worlds import World
from support import PastTest


class Examples(PastTest):

    def test_told(self):
        self.same(told(Look("a", Now(), "at"), World({"a": [3, 8]}), 7), 3)

    def test_told_within(self):
        self.assertIsNone(told(Look("a", Now(), "at", within=3), World({"a": [3, 8]}), 7))

    def test_calling_a_term(self):
        term = Look("a", Now(), "after") | Now()
        self.same(term(World({"a": [3]}), 5), 5)

    def test_shifts(self):
        term = Now() + 3 - 5
        self.same([term.amount, term.depth, term.parts], [-2, 2, 2])

    def test_a_stream(self):
        stream = Stream("a", limit=4)
        look = stream.after(Now())
        stream.limit = None
        self.same([look.way, look.within, stream.at(look).within], ["after", 4, None])

    def test_a_world(self):
        world = World({"b": [5, 2]})
        world["a"] = [7]
        self.same(world.rows(), [("a", 7), ("b", 2), ("b", 5)])

    def test_wrong_rows(self):
        self.raises(BadRows, World, {"a": [3, 3]}, name="a")


if __name__ == "__main__":
    unittest.main()
