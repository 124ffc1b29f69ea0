"""Points 4 to 6 and 16: the answers of terms."""

import random
import unittest

from pastlooks.errors import BadMoment, BadTerm, BadWorld
from pastlooks.terms import Look, Now, Term, told
from pastlooks.worlds import World
from support import BIG, NO_INTEGERS, PastTest, deep, look, looks, nows

ROWS = {"a": [0, 3, 4, 8], "b": [-5, 5]}
NO_TERMS = [None, 0, 1, True, "now", b"", [], [Now()], (), {}, set(), World(), Now, Term, object(), len]
NO_WORLDS = [None, 0, 1, True, "a", b"", [], [("a", 1)], (), {}, {"a": [1]}, set(), Now(), World, object()]


class Looks(PastTest):

    def answers(self, term, world, first, wanted):
        """The answers at the moments from first on."""
        self.same([told(term, world, first + k) for k in range(len(wanted))], wanted)

    def test_at(self):
        self.answers(look(), World(ROWS), -2, [None, None, 0, 0, 0, 3, 4, 4, 4, 4, 8, 8, 8])

    def test_before(self):
        self.answers(look(way="before"), World(ROWS), -2, [None, None, None, 0, 0, 0, 3, 4, 4, 4, 4, 8, 8])

    def test_since(self):
        self.answers(look(way="since"), World(ROWS), -2, [0, 0, 0, 3, 3, 3, 4, 8, 8, 8, 8, None, None])

    def test_after(self):
        self.answers(look(way="after"), World(ROWS), -2, [0, 0, 3, 3, 3, 4, 8, 8, 8, 8, None, None, None])

    def test_within(self):
        world = World({"a": [0, 10]})
        self.answers(look(within=2), world, -1, [None, 0, 0, 0, None, None])
        self.answers(look(way="before", within=2), world, -1, [None, None, 0, 0, None, None])
        self.answers(look(way="since", within=2), world, 7, [None, 10, 10, 10, None])
        self.answers(look(way="after", within=2), world, 7, [None, 10, 10, None, None])
        self.answers(look(within=1), world, -1, [None, 0, 0, None, None])
        self.answers(look(way="before", within=1), world, -1, [None, None, 0, None])
        self.answers(look(way="after", within=1), world, 7, [None, None, 10, None])

    def test_within_takes_no_other_row_instead(self):
        world = World({"a": [0, 10]})
        for way in ["at", "before", "since", "after"]:
            self.assertIsNone(told(look(way=way, within=4), world, 5))
            self.assertIsNotNone(told(look(way=way, within=5), world, 5))
        self.assertIsNone(told(look(within=1), world, 9))
        self.assertIsNone(told(look(way="since", within=1), world, 1))

    def test_within_0(self):
        world = World({"a": [4, 5, 6]})
        self.answers(look(within=0), world, 3, [None, 4, 5, 6, None])
        self.answers(look(way="since", within=0), world, 3, [None, 4, 5, 6, None])
        self.answers(look(way="before", within=0), world, 3, [None] * 5)
        self.answers(look(way="after", within=0), world, 3, [None] * 5)

    def test_the_distance_is_that_from_the_moment_of_the_look(self):
        world = World({"a": [0]})
        term = look("a", Now() + 10, within=3)
        self.answers(term, world, -11, [None, 0, 0, 0, 0, None])
        term = look("a", Now() - 10, "since", within=3)
        self.answers(term, world, 6, [None, 0, 0, 0, 0, None])

    def test_an_empty_stream(self):
        for way in ["at", "before", "since", "after"]:
            for within in [None, 0, 5]:
                self.assertIsNone(told(look("z", way=way, within=within), World(ROWS), 4))
                self.assertIsNone(told(look(way=way, within=within), World(), 4))
        emptied = World(ROWS)
        emptied["a"] = []
        self.assertIsNone(told(look(), emptied, 4))

    def test_streams_do_not_mix(self):
        self.same([told(look("a"), World(ROWS), 7), told(look("b"), World(ROWS), 7)], [4, 5])

    def test_a_look_from_a_look(self):
        world = World(ROWS)
        self.answers(look("b", look("a"), "after"), world, -1, [None, 5, 5, 5, 5, 5, 5, 5, 5, None])
        self.answers(look("a", look("b"), "since"), world, -6, [None, 0, 0])
        self.answers(look("a", look("b") + 3), world, 5, [8])

    def test_a_look_whose_moment_has_no_answer(self):
        world = World({"a": [1]})
        for way in ["at", "before", "since", "after"]:
            self.assertIsNone(told(look("a", look("z"), way), world, 1))
            self.assertIsNone(told(look("a", look("z") + 1, way, 9), world, 1))

    def test_one_row(self):
        world = World({"a": [0]})
        for way, wanted in [("at", [None, 0, 0]), ("before", [None, None, 0]), ("since", [0, 0, None]),
                            ("after", [0, None, None])]:
            self.answers(look(way=way), world, -1, wanted)

    def test_300_rows(self):
        world = World({"a": [3 * k for k in range(300)]})
        for now in range(-4, 904):
            self.same(told(look(), world, now), None if now < 0 else min(now // 3 * 3, 897))
            self.same(told(look(way="after"), world, now), max(now // 3 * 3 + 3, 0) if now < 897 else None)

    def test_big_integers(self):
        world = World({"a": [-BIG, BIG]})
        self.same(told(look(), world, BIG - 1), -BIG)
        self.same(told(look(), world, BIG), BIG)
        self.same(told(look(way="since"), world, 1 - BIG), BIG)
        self.same(told(look(way="since", within=2 * BIG - 1), world, 1 - BIG), BIG)
        self.assertIsNone(told(look(way="since", within=2 * BIG - 2), world, 1 - BIG))
        self.same(told(Now() + BIG, world, BIG), 2 * BIG)


class OtherKinds(PastTest):

    def test_now(self):
        for now in [0, 1, -1, BIG, -BIG]:
            self.same(told(Now(), World(ROWS), now), now)

    def test_shifts(self):
        world = World(ROWS)
        self.same(told(Now() + 5, world, -5), 0)
        self.same(told(Now() - 5, world, 7), 2)
        self.same(told(look() + 2, world, 7), 6)
        self.same(told(look() - 2, world, 7), 2)
        self.same(told(look() - BIG, world, 7), 4 - BIG)
        self.assertIsNone(told(look("z") + 2, world, 7))

    def test_or(self):
        world = World(ROWS)
        self.same(told(look("a") | Now(), world, 7), 4)
        self.same(told(look("z") | Now(), world, 7), 7)
        self.same(told(Now() | look("a"), world, 7), 7)
        self.assertIsNone(told(look("z") | look("y"), world, 7))
        self.same(told(look("z") | (look("y") | look("b")), world, 7), 5)

    def test_0_is_an_answer(self):
        world = World({"a": [0]})
        self.same(told(look() | Now(), world, 3), 0)
        self.same(told(Now() | look("z"), world, 0), 0)
        self.same(told(look().later(Now() - 9), world, 3), 0)
        self.same(told(look().earlier(Now() + 9), world, 3), 0)
        self.same(told((Now() - 9).later(look()), world, 3), 0)
        self.same(told(Now() - 3, world, 3), 0)
        self.same(told(look() + 1, world, 3), 1)
        self.same(told(look("a", look()), world, 3), 0)

    def test_later_and_earlier(self):
        world = World(ROWS)
        for now in [-6, -5, 0, 2, 3, 5, 6, 8, 9]:
            a = told(look("a"), world, now)
            b = told(look("b"), world, now)
            none = a is None or b is None
            self.same(told(look("a").later(look("b")), world, now), None if none else max(a, b))
            self.same(told(look("b").later(look("a")), world, now), None if none else max(a, b))
            self.same(told(look("a").earlier(look("b")), world, now), None if none else min(a, b))
            self.same(told(look("b").earlier(look("a")), world, now), None if none else min(a, b))

    def test_later_and_earlier_without_an_answer(self):
        world = World(ROWS)
        none = look("z")
        for term in [none.later(Now()), Now().later(none), none.earlier(Now()), Now().earlier(none), none.later(none),
                     none.earlier(none)]:
            self.assertIsNone(told(term, world, 7))

    def test_the_largest_terms(self):
        world = World({"a": [3]})
        self.same(told(deep(12), world, 3), 3)
        self.assertIsNone(told(deep(12), world, 4))
        self.same(told(looks(12), world, 4), 3)
        self.same(told(nows(20) + 1, world, 4), 5)


class Told(PastTest):

    def test_calling_a_term_is_the_same(self):
        world = World(ROWS)
        for term in [Now(), Now() + 3, look(), look("z"), look() | Now(), look("b").later(look()),
                     look("b").earlier(look())]:
            for now in [-6, 0, 4, 7, BIG]:
                self.same(term(world, now), told(term, world, now))
        for wrong in NO_WORLDS:
            self.raises(BadWorld, look(), wrong, 5, value=wrong)
        for wrong in NO_INTEGERS:
            self.raises(BadMoment, look(), World(), wrong, value=wrong)
        self.raises(BadWorld, look(), 5, "x", value=5)

    def test_wrong_arguments(self):
        for wrong in NO_TERMS:
            self.raises(BadTerm, told, wrong, World(), 1, value=wrong)
        for term in [Now(), look(), look("z")]:
            for wrong in NO_WORLDS:
                self.raises(BadWorld, told, term, wrong, 1, value=wrong)
            for wrong in NO_INTEGERS:
                self.raises(BadMoment, told, term, World(), wrong, value=wrong)

    def test_the_order_of_the_errors(self):
        self.raises(BadTerm, told, 1, 2, "3", value=1)
        self.raises(BadTerm, told, None, World(), True, value=None)
        self.raises(BadWorld, told, Now(), 2, True, value=2)
        self.raises(BadMoment, told, Now(), World(), True, value=True)

    def test_nothing_changes(self):
        world = World(ROWS)
        term = look("b", look("a") + 1, within=4) | look("z").later(Now())
        again = look("b", look("a") + 1, within=4) | look("z").later(Now())
        for now in range(-7, 10):
            self.same(told(term, world, now), told(term, world, now))
        self.assertEqual(world, World(ROWS))
        self.same(world["z"], [])
        self.same(world.names(), ["a", "b"])
        self.assertEqual(term, again)

    def test_a_world_that_changes(self):
        world = World({"a": [1]})
        self.same(told(look(), world, 5), 1)
        world["a"] = [1, 4]
        self.same(told(look(), world, 5), 4)
        world |= World({"a": [5]})
        self.same(told(look(), world, 5), 5)
        self.same(world.trial({"a": [6]}, lambda given: told(look(way="after"), given, 5)), 6)
        self.assertIsNone(told(look(way="after"), world, 5))


def plain_answer(plan, rows, now):
    """The answer of a written-out term, straight from the words of points 4 to 6."""
    word = plan[0]
    if word == "now":
        return now
    one = plain_answer(plan[1], rows, now)
    if word == "shift":
        return None if one is None else one + plan[2]
    if word == "look":
        return None if one is None else plain_row(rows.get(plan[2], []), plan[3], plan[4], one)
    other = plain_answer(plan[2], rows, now)
    if word == "either":
        return other if one is None else one
    if one is None or other is None:
        return None
    return max(one, other) if word == "later" else min(one, other)


def plain_row(moments, way, within, moment):
    fits = {"at": [row for row in moments if row <= moment], "before": [row for row in moments if row < moment],
            "since": [row for row in moments if row >= moment], "after": [row for row in moments if row > moment]}[way]
    if not fits:
        return None
    row = max(fits) if way in ("at", "before") else min(fits)
    return None if within is not None and abs(row - moment) > within else row


def made(plan):
    word = plan[0]
    if word == "now":
        return Now()
    one = made(plan[1])
    if word == "shift":
        return one + plan[2]
    if word == "look":
        return Look(plan[2], one, plan[3], within=plan[4])
    other = made(plan[2])
    return one | other if word == "either" else one.later(other) if word == "later" else one.earlier(other)


def any_plan(chance, depth):
    word = chance.choice(["now", "shift", "look", "look", "look", "either", "later", "earlier"]) if depth else "now"
    if word == "now":
        return ("now",)
    one = any_plan(chance, depth - 1)
    if word == "shift":
        return ("shift", one, chance.randrange(-4, 5))
    if word == "look":
        return ("look", one, chance.choice(["a", "b", "c"]), chance.choice(["at", "before", "since", "after"]),
                chance.choice([None, None, 0, 1, 2, 5]))
    return (word, one, any_plan(chance, depth - 1))


class AgainstPlainAnswers(PastTest):

    def test_many_terms_and_worlds(self):
        chance = random.Random(11)
        for _ in range(1500):
            plan = any_plan(chance, chance.randrange(5))
            rows = {name: chance.sample(range(-8, 9), chance.randrange(6)) for name in ["a", "b"]}
            term = made(plan)
            world = World(rows)
            for now in [-10, -3, 0, 1, 2, 5, 10]:
                self.same(told(term, world, now), plain_answer(plan, rows, now))


if __name__ == "__main__":
    unittest.main()
