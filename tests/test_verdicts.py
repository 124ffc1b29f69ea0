"""Points 2, 21, 22 and 23: the questions alike and covers, their limits, and worlds that answer them."""

import itertools
import random
import unittest

from pastlooks.errors import BadTerm, NoPaper, NotCovered, TooMany, Unlike
from pastlooks.terms import Now, told
from pastlooks.verdicts import (
    alike, cover_paper, covers, gap, is_cover_paper, is_paper, is_parting, paper, parting)
from pastlooks.worlds import World
from support import (
    BIG, NO_INTEGERS, NO_PAPERS, NO_TERMS, WAYS, PastTest, look, looks, nows, random_pair, random_world, small_terms,
    worlds)


def is_gap(one, other, world, now):
    return told(one, world, now) is None and told(other, world, now) is not None


def is_difference(one, other, world, now):
    return told(one, world, now) != told(other, world, now)


class Questions(PastTest):

    def check(self, one, other):
        """Both questions about these terms; whether the answers are yes."""
        return self.check_alike(one, other), self.check_covers(one, other)

    def check_alike(self, one, other):
        found = alike(one, other)
        self.assertIs(found.__class__, bool)
        pair = parting(one, other)
        if found:
            self.assertIsNone(pair)
            self.assertIs(is_paper(one, other, paper(one, other)), True)
        else:
            world, now = pair
            self.check_pair(pair)
            self.assertTrue(is_difference(one, other, world, now))
            self.assertIs(is_parting(one, other, pair), True)
            self.raises(Unlike, paper, one, other)
        return found

    def check_covers(self, one, other):
        found = covers(one, other)
        self.assertIs(found.__class__, bool)
        pair = gap(one, other)
        if found:
            self.assertIsNone(pair)
            self.assertIs(is_cover_paper(one, other, cover_paper(one, other)), True)
        else:
            world, now = pair
            self.check_pair(pair)
            self.assertTrue(is_gap(one, other, world, now))
            self.raises(NotCovered, cover_paper, one, other)
        return found

    def check_pair(self, pair):
        world, now = pair
        self.assertEqual([pair.__class__, world.__class__, now.__class__], [tuple, World, int])
        self.assertLessEqual(len(world), 4)


class Alike(Questions):

    def yes(self, one, other):
        self.assertTrue(self.check_alike(one, other))
        self.assertTrue(self.check_alike(other, one))

    def no(self, one, other, rows):
        """They differ, in a world with so many rows and in none with fewer."""
        self.assertFalse(self.check_alike(one, other))
        self.assertFalse(self.check_alike(other, one))
        self.assertEqual(len(parting(one, other)[0]), rows)
        self.assertEqual(len(parting(other, one)[0]), rows)

    def test_a_term_and_itself(self):
        for term in small_terms():
            if term.looks <= 2:
                self.yes(term, term)

    def test_terms_without_looks(self):
        self.yes(Now(), Now() + 1 - 1)
        self.no(Now(), Now() + 1, 0)
        self.yes(Now().later(Now() + 1), Now() + 1)
        self.yes(Now().earlier(Now() - 1), Now() - 1)
        self.yes(Now() | Now() + 7, Now())
        self.no(Now() | Now() + 7, Now() + 7, 0)
        self.no(Now() + BIG, Now() + BIG + 1, 0)
        self.yes(Now() + BIG, (Now() + BIG).later(Now() + BIG - 1))

    def test_ways(self):
        self.yes(look("a", Now() + 1, "before"), look())
        self.yes(look("a", Now() - 1, "after"), look(way="since"))
        self.no(look(way="before"), look(), 1)
        self.no(look(way="after"), look(way="since"), 1)
        self.no(look(), look(way="since"), 1)
        self.no(look(), look("b"), 1)
        self.no(look(), Now(), 0)

    def test_limits_of_looks(self):
        self.yes(look(way="before", within=0), look("b", way="after", within=0))
        self.yes(look(within=0), look(way="since", within=0))
        self.no(look(within=0), look(way="before", within=1), 1)
        self.yes(look("a", Now() + 1, "before", 1), look(within=0))
        self.no(look(within=2), look(within=3), 1)
        self.no(look(within=BIG), look(within=BIG + 1), 1)
        self.no(look(within=BIG), look(), 1)
        self.yes(look(within=2) | look(within=5), look(within=5))
        self.yes(look(within=2) | look(), look())
        self.yes(look(within=5) | look(within=2), look(within=5))

    def test_a_look_at_a_row(self):
        self.yes(look("a", look()), look())
        self.yes(look("a", look(), "since"), look())
        self.no(look("a", look(), "before"), look(), 1)
        # The row behind the last one at or before now is the first one after now, if there is a row at or before now.
        self.no(look("a", look(), "after"), look(way="after"), 1)
        self.yes(look("a", look(), "after") | look(way="after"), look(way="after"))
        self.yes(look("b", look(within=0)), look("b", look(within=0).earlier(Now())))

    def test_two_rows_are_needed(self):
        # Only with a second row ahead does the look before a row find something.
        self.no(look("a", look(), "before"), look("a", Now(), "before", 0), 2)
        self.no(look("a", look(), "before") | Now(), Now(), 2)
        self.no(look("b", look()) | Now(), Now(), 2)
        self.no(look("a", look(), "after").later(look("b")) | Now(), Now(), 3)
        self.no(look("a", look("a", look(), "before"), "before") | Now(), Now(), 3)
        self.no(look("a", look("a", look("a", look(), "before"), "before"), "before") | Now(), Now(), 4)
        self.no(look("d", look("c", look("b", look()))) | Now(), Now(), 4)

    def test_the_fewest_rows_wherever_they_are(self):
        never = look(way="before", within=0)
        # If the first look finds nothing, two or three rows are needed.
        self.no(look() | look("c", look("b")), never, 1)
        self.no(look("c", look("b")) | look(), never, 1)
        self.no(look("a", look(), "before", 3) | look(way="since"), never, 1)
        self.no(look().later(look("b")) | look("c"), never, 1)

    def test_later_and_earlier(self):
        self.yes(look().later(Now()) | Now(), Now())
        self.yes(look().earlier(Now()), look())
        self.no(look().later(Now()), look(), 1)
        self.yes(look().later(look("b")), look("b").later(look()))
        self.yes(look().earlier(look("b")), look("b").earlier(look()))
        self.no(look().later(look("b")), look().earlier(look("b")), 2)
        self.no(look().later(look("b")), look("b") | look(), 1)
        self.yes(look(way="since").earlier(look(way="after")), look(way="since").earlier(look(way="after")))
        self.yes(look().later(look(way="before")) | look(), look())

    def test_many_small_terms(self):
        terms = small_terms()
        found = {True: 0, False: 0}
        for one, other in itertools.product(terms, terms):
            found[alike(one, other)] += 1
            self.assertEqual(alike(one, other), parting(one, other) is None)
        self.assertGreater(found[True], len(terms))

    def test_pairs_of_small_terms(self):
        source = random.Random(31)
        terms = small_terms()
        for _ in range(600):
            self.check_alike(source.choice(terms), source.choice(terms))

    def test_against_all_small_worlds(self):
        source = random.Random(32)
        tried = list(worlds("a", 3, 6))
        found = {True: 0, False: 0}
        for _ in range(150):
            one, other = random_pair(source, 4, "a")
            pair = parting(one, other)
            least = [len(world) for world in tried if is_difference(one, other, world, 0)]
            found[pair is None] += 1
            if pair is None:
                self.assertEqual(least, [])
            elif least:
                self.assertEqual(len(pair[0]), least[0])
            else:
                self.assertEqual(len(pair[0]), 4)
        self.assertGreater(min(found.values()), 20)

    def test_against_all_small_worlds_of_two_streams(self):
        source = random.Random(33)
        tried = list(worlds("ab", 2, 5))
        for _ in range(150):
            one, other = random_pair(source, 3)
            pair = parting(one, other)
            least = [len(world) for world in tried if is_difference(one, other, world, 0)]
            if pair is None:
                self.assertEqual(least, [])
            elif least:
                self.assertEqual(len(pair[0]), least[0])
            else:
                self.assertGreater(len(pair[0]), 2)

    def test_against_random_worlds(self):
        source = random.Random(34)
        for _ in range(300):
            one, other = random_pair(source, 5)
            if self.check_alike(one, other):
                for _ in range(30):
                    world = random_world(source, 5, 6)
                    self.assertFalse(is_difference(one, other, world, source.randint(-4, 4)))

    def test_the_same_call_gives_the_same_answer(self):
        one, other = look().later(look("b")), look("b").earlier(look())
        self.assertEqual(parting(one, other), parting(one, other))
        self.assertEqual(paper(one, one), paper(one, one))
        world, now = parting(one, other)
        world["a"] = []
        self.assertTrue(is_parting(one, other, parting(one, other)))


class Covers(Questions):

    def yes(self, one, other):
        self.assertTrue(self.check_covers(one, other))

    def no(self, one, other, rows):
        self.assertFalse(self.check_covers(one, other))
        self.assertEqual(len(gap(one, other)[0]), rows)

    def test_terms_that_always_have_an_answer(self):
        self.yes(Now(), Now())
        self.yes(Now() + 5, Now())
        self.yes(Now(), look())
        self.yes(Now(), look("a", look("b"), "after"))
        self.yes(look() | Now(), look("b"))
        self.no(look(), Now(), 0)
        self.no(look(), look("b") | Now(), 0)

    def test_looks(self):
        self.yes(look(), look(way="before"))
        self.no(look(way="before"), look(), 1)
        self.yes(look(way="since"), look(way="after"))
        self.no(look(way="after"), look(way="since"), 1)
        self.no(look(way="since"), look(), 1)
        self.no(look(), look("b"), 1)
        self.yes(look(within=3), look(within=2))
        self.no(look(within=2), look(within=3), 1)
        self.yes(look(), look(within=BIG))
        self.no(look(within=BIG), look(), 1)
        self.yes(look("a", Now() + 1), look())
        self.no(look("a", Now() - 1), look(), 1)

    def test_a_term_that_never_has_an_answer(self):
        never = look(way="before", within=0)
        self.yes(look("b"), never)
        self.yes(never, never)
        self.no(never, look(), 1)

    def test_joined_terms(self):
        self.yes(look() | look("b"), look())
        self.yes(look() | look("b"), look("b"))
        self.no(look(), look() | look("b"), 1)
        self.yes(look(), look().later(look("b")))
        self.yes(look().earlier(look("b")), look().later(look("b")))
        self.no(look().earlier(look("b")), look(), 1)
        self.no(look().later(look("b")), look() | look("b"), 1)

    def test_two_rows_are_needed(self):
        self.no(look("a", look(), "after"), look("b", look()), 2)
        self.no(look("a", look(), "since", 0).later(look("b")), look(), 1)
        self.no(look("a", Now(), "before", 0), look("a", look(), "before"), 2)
        self.no(look("c"), look("b", look()), 2)
        self.yes(look(), look("b", look()))
        self.no(look("e"), look("c", look("b", look())), 3)

    def test_the_fewest_rows_wherever_they_are(self):
        never = look(way="before", within=0)
        self.no(never, look() | look("c", look("b")), 1)
        self.no(never, look("c", look("b")) | look(), 1)
        self.no(look("b"), look() | look("c", look("b")), 1)
        self.no(look("a", Now() + 1, "since"), look("b").later(look("c")) | look(), 1)

    def test_alike_terms_cover_each_other(self):
        terms = small_terms()
        for one, other in itertools.product(terms, terms):
            if alike(one, other):
                self.assertTrue(covers(one, other) and covers(other, one))
            self.assertEqual(covers(one, other), gap(one, other) is None)

    def test_pairs_of_small_terms(self):
        source = random.Random(35)
        terms = small_terms()
        found = {True: 0, False: 0}
        for _ in range(600):
            found[self.check_covers(source.choice(terms), source.choice(terms))] += 1
        self.assertGreater(min(found.values()), 100)

    def test_against_all_small_worlds(self):
        source = random.Random(36)
        tried = list(worlds("a", 3, 6))
        found = {True: 0, False: 0}
        for _ in range(150):
            one, other = random_pair(source, 4, "a")
            pair = gap(one, other)
            least = [len(world) for world in tried if is_gap(one, other, world, 0)]
            found[pair is None] += 1
            if pair is None:
                self.assertEqual(least, [])
            elif least:
                self.assertEqual(len(pair[0]), least[0])
            else:
                self.assertEqual(len(pair[0]), 4)
        self.assertGreater(min(found.values()), 20)

    def test_against_all_small_worlds_of_two_streams(self):
        source = random.Random(37)
        tried = list(worlds("ab", 2, 5))
        for _ in range(150):
            one, other = random_pair(source, 3)
            pair = gap(one, other)
            least = [len(world) for world in tried if is_gap(one, other, world, 0)]
            if pair is None:
                self.assertEqual(least, [])
            elif least:
                self.assertEqual(len(pair[0]), least[0])
            else:
                self.assertGreater(len(pair[0]), 2)

    def test_against_random_worlds(self):
        source = random.Random(38)
        for _ in range(300):
            one, other = random_pair(source, 5)
            if self.check_covers(one, other):
                for _ in range(30):
                    world = random_world(source, 5, 6)
                    self.assertFalse(is_gap(one, other, world, source.randint(-4, 4)))


class IsParting(PastTest):

    def test_a_difference(self):
        self.same(is_parting(look(), look(way="before"), (World({"a": [3]}), 3)), True)
        self.same(is_parting(look(), look(way="before"), (World({"a": [3]}), 4)), False)
        self.same(is_parting(Now(), Now() + 1, (World(), -BIG)), True)
        self.same(is_parting(look(), look("b"), (World(), 0)), False)

    def test_any_world_counts(self):
        world = World({"a": list(range(100)), "z": list(range(200))})
        self.same(is_parting(look(), look(way="before"), (world, 50)), True)
        self.same(is_parting(look(), look(way="before"), (world, 300)), False)

    def test_against_told(self):
        source = random.Random(39)
        found = {True: 0, False: 0}
        for _ in range(400):
            one, other = random_pair(source, 4)
            world, now = random_world(source, 4, 6), source.randint(-6, 6)
            wanted = is_difference(one, other, world, now)
            found[wanted] += 1
            self.same(is_parting(one, other, (world, now)), wanted)
        self.assertGreater(min(found.values()), 50)

    def test_anything_else(self):
        one, other = Now(), Now() + 1
        self.assertTrue(is_parting(one, other, (World(), 1)))
        for wrong in NO_INTEGERS:
            self.same(is_parting(one, other, (World(), wrong)), False)
        for wrong in NO_PAPERS:
            self.same(is_parting(one, other, wrong), False)
            self.same(is_parting(one, other, (wrong, 0)), False)
        for wrong in [World(), [World(), 0], (World(),), (World(), 0, 0), (World(), 0, None), (0, World()),
                      ((World(), 0),), {World: 0}, ({}, 0), ({"a": [1]}, 0), (World, 0), (one, 0)]:
            self.same(is_parting(one, other, wrong), False)


class Limits(PastTest):

    TWO = [alike, parting, paper, covers, gap, cover_paper]
    THREE = [is_parting, is_paper, is_cover_paper]

    def called(self, deed, one, other):
        """What the call raises, unless it is that there is no paper."""
        try:
            deed(one, other, None) if deed in self.THREE else deed(one, other)
        except NoPaper:
            pass

    def fits(self, one, other):
        for deed in self.TWO + self.THREE:
            self.called(deed, one, other)
            self.called(deed, other, one)

    def breaks(self, one, other):
        for deed in self.TWO + self.THREE:
            self.raises(TooMany, self.called, deed, one, other)
            self.raises(TooMany, self.called, deed, other, one)

    def test_looks(self):
        self.fits(looks(4), Now())
        self.fits(looks(2), looks(2))
        self.fits(looks(1), looks(3))
        self.breaks(looks(5), Now())
        self.breaks(looks(3), looks(2))
        self.breaks(looks(4), looks(1))
        self.breaks(looks(12), looks(12))

    def test_choices(self):
        now = Now()
        three = now.later(now).later(now).earlier(now)
        self.assertEqual([three.looks, three.choices], [0, 3])
        self.fits(three, three)
        self.breaks(three, three.later(now))
        self.fits(three.later(now).later(now).earlier(now), now)
        self.breaks(three.earlier(three), now)
        self.fits(looks(4).later(now), now.earlier(now))
        self.breaks(looks(4).later(now).later(now), now.earlier(now))
        self.fits(look().later(look("b")), look().later(look("b")))
        self.breaks(look().later(look("b")).later(now), look().later(look("b")))

    def test_many_parts_with_few_looks(self):
        term = nows(18)
        self.assertEqual(term.parts, 35)
        self.fits(look() | term, term)
        chain = look()
        for count in range(5):
            chain = (chain | Now() + count) + 1
        self.assertEqual(chain.depth, 12)
        self.fits(chain, chain)

    def test_the_order_of_the_errors(self):
        for wrong in NO_TERMS:
            for deed in self.TWO:
                self.raises(BadTerm, deed, wrong, None, value=wrong)
                self.raises(BadTerm, deed, wrong, looks(12), value=wrong)
                self.raises(BadTerm, deed, looks(12), wrong, value=wrong)
            for deed in self.THREE:
                self.raises(BadTerm, deed, wrong, None, None, value=wrong)
                self.raises(BadTerm, deed, looks(12), wrong, None, value=wrong)

    def test_too_many_also_where_a_thing_is_judged(self):
        for thing in [None, ("fine",), (World(), 0), ("ring", (0,))]:
            for deed in self.THREE:
                self.raises(TooMany, deed, looks(3), looks(2), thing)


class LargestQuestions(Questions):

    def test_four_looks_of_one_stream(self):
        source = random.Random(40)
        found = {True: 0, False: 0}
        for _ in range(150):
            terms = [look("a", Now() + source.randint(-1, 1), source.choice(WAYS), source.choice([None, 1, 4]))
                     for _ in range(4)]
            one, other = terms[0].later(terms[1]), terms[2] | terms[3]
            if source.randrange(2):
                one, other = terms[0].later(terms[1]), terms[1].later(terms[0])
            if source.randrange(2):
                one, other = one.later(Now()), other.later(Now())
            if one.choices + other.choices <= 6:
                for answer in self.check(one, other):
                    found[answer] += 1
        self.assertGreater(min(found.values()), 30)

    def test_chains_of_four_looks(self):
        for ways in itertools.product(WAYS, repeat=4):
            term = Now()
            for way in ways:
                term = look("a", term, way, 3)
            self.check(term, Now())
            self.check(Now(), term)
            half = look("a", look("a", Now(), ways[0]), ways[1])
            self.check(half, look("a", look("a", Now(), ways[2]), ways[3]))


if __name__ == "__main__":
    unittest.main()
