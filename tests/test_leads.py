"""Points 2, 21, 22 and 24: how far one term can lie behind another one, and worlds that show it."""

import itertools
import random
import unittest

from pastlooks.errors import BadMoment, BadTerm, NotMost, TooMany
from pastlooks.leads import age, is_lead_paper, lead, lead_paper, reaching
from pastlooks.terms import Now, told
from pastlooks.worlds import World
from support import (
    BIG, NO_INTEGERS, NO_PAPERS, NO_TERMS, WAYS, PastTest, look, looks, nows, random_pair, random_world, small_terms,
    worlds)

FAR = 10 ** 30
NEVER_FOUND = look(way="before", within=0)


def span(one, other, world, now):
    """One minus other, or None if one of both has no answer."""
    first, second = told(one, world, now), told(other, world, now)
    return None if first is None or second is None else first - second


class LeadTest(PastTest):

    def check(self, one, other):
        """The lead, after looking at all that the other functions say of it."""
        found = lead(one, other)
        self.assertEqual([found.__class__, len(found)], [tuple, 2])
        self.same(found, lead(one, other))
        word, most = found
        if word == "most":
            self.same(most.__class__, int)
            for n in (most, most - 1, most - FAR):
                self.reached(one, other, n)
            for n in (most, most + 1, most + FAR):
                self.same(is_lead_paper(one, other, n, lead_paper(one, other, n)), True)
            for n in (most + 1, most + 2, most + FAR):
                self.assertIsNone(reaching(one, other, n))
            for n in (most - 1, most - FAR):
                self.raises(NotMost, lead_paper, one, other, n)
        else:
            self.assertIn(found, [("never", None), ("endless", None)])
            for n in (-FAR, -1, 0, 1, FAR):
                if word == "endless":
                    self.reached(one, other, n)
                    self.raises(NotMost, lead_paper, one, other, n)
                else:
                    self.assertIsNone(reaching(one, other, n))
                    self.same(is_lead_paper(one, other, n, lead_paper(one, other, n)), True)
        return found

    def reached(self, one, other, n):
        """The world that shows that one minus other reaches n."""
        pair = reaching(one, other, n)
        world, now = pair
        self.assertEqual([pair.__class__, world.__class__, now.__class__], [tuple, World, int])
        self.assertLessEqual(len(world), 4)
        self.assertGreaterEqual(span(one, other, world, now), n)
        return world

    def most(self, one, other, n):
        self.same(self.check(one, other), ("most", n))

    def endless(self, one, other):
        self.same(self.check(one, other), ("endless", None))

    def never(self, one, other):
        self.same(self.check(one, other), ("never", None))

    def ages(self, term, wanted):
        self.same(age(term), wanted)
        self.same(self.check(Now(), term), wanted)


class Leads(LeadTest):

    def test_terms_without_looks(self):
        self.most(Now(), Now(), 0)
        self.most(Now() + 3, Now(), 3)
        self.most(Now(), Now() + 3, -3)
        self.most(Now() + BIG, Now() - BIG, 2 * BIG)
        self.most(Now().later(Now() + 5), Now() - 1, 6)
        self.most(Now().earlier(Now() + 5), Now() - 1, 1)
        self.most(Now(), Now().later(Now() + 5), -5)
        self.most(Now() | Now() + 9, Now(), 0)

    def test_ages(self):
        self.ages(Now(), ("most", 0))
        self.ages(Now() - 4, ("most", 4))
        self.ages(look(), ("endless", None))
        self.ages(look(within=5), ("most", 5))
        self.ages(look(within=0), ("most", 0))
        self.ages(look(within=BIG), ("most", BIG))
        self.ages(look(way="before", within=5), ("most", 5))
        self.ages(look(way="since"), ("most", 0))
        self.ages(look(way="since", within=5), ("most", 0))
        self.ages(look(way="after"), ("most", -1))
        self.ages(look(way="after", within=5), ("most", -1))
        self.ages(NEVER_FOUND, ("never", None))
        self.ages(look("b", look(within=3), "at", 4), ("most", 7))
        self.ages(look("b", look(within=3), "after", 4), ("most", 2))
        self.ages(look("b", look(within=3) - 2, "before", 4) - 1, ("most", 10))
        self.ages(look("d", look("c", look("b", look(within=1), "at", 2), "at", 3), "at", 4), ("most", 10))

    def test_the_other_side(self):
        self.endless(look(way="since"), Now())
        self.most(look(way="since", within=5), Now(), 5)
        self.most(look(way="after", within=5), Now(), 5)
        self.most(look(), Now(), 0)
        self.most(look(way="before"), Now(), -1)
        self.most(look("a", Now() + 7), Now(), 7)
        self.endless(look("a", Now() - 7, "after"), Now())

    def test_never(self):
        for other in [Now(), look(), look("b"), NEVER_FOUND, look("a", NEVER_FOUND)]:
            self.never(NEVER_FOUND, other)
            self.never(other, NEVER_FOUND)
            self.never(look("b", NEVER_FOUND), other)
            self.never(other.later(NEVER_FOUND), Now())
            self.never(Now(), other.earlier(NEVER_FOUND))

    def test_two_looks_of_one_stream(self):
        self.most(look(), look(), 0)
        self.most(look(way="before"), look(), 0)
        self.endless(look(), look(way="before"))
        self.most(look(), look(way="since"), 0)
        self.endless(look(way="since"), look())
        self.most(look(), look(way="after"), -1)
        self.most(look(way="since"), look(way="after"), 0)
        self.endless(look(way="after"), look(way="since"))
        self.most(look("a", Now() - 3), look(), 0)
        self.most(look("a", Now() - 3, "after"), look(way="after"), 0)

    def test_two_streams(self):
        self.endless(look(), look("b"))
        self.most(look(within=4), look("b", way="since"), 0)
        self.most(look(way="since", within=4), look("b", within=3), 7)
        self.most(look(way="after", within=4), look("b", way="before", within=3), 7)
        self.most(look(), look("b", way="after"), -1)

    def test_what_stretches_without_rows_say(self):
        # The row behind the last one before now is not before now.
        self.ages(look("a", look(way="before"), "after"), ("most", 0))
        self.ages(look("a", look(), "after"), ("most", -1))
        self.most(look("a", look(way="after"), "before"), Now(), 0)
        self.most(look("a", look(way="since"), "before"), Now(), -1)
        self.endless(look("a", look(way="before"), "after"), look(way="before"))
        self.most(look("a", look(way="before"), "after", 6), look(way="before"), 6)
        self.most(look(way="before"), look("a", look(way="before"), "after", 6), -1)
        # Within a limit, the row ahead and the row behind of this row are the same row.
        self.most(look("a", look("a", look(), "after"), "before"), look(), 0)
        self.most(look(), look("a", look("a", look(), "after"), "before"), 0)

    def test_where_only_a_stretch_without_rows_says_how_far(self):
        # The second look is gone through only if there is no row from now + 100 on, or none up to now - 100.
        for far in (2, 100, BIG):
            one = look("a", Now() + far, "since").earlier(Now()) | look(way="since")
            self.most(one, Now(), far - 1)
            other = look("a", Now() - far).later(Now()) | look()
            self.ages(other, ("most", far - 1))
            self.most(look(way="since"), look("a", Now() + far, "since").later(Now() + 3 * far) | Now() - far, 2 * far - 1)

    def test_either(self):
        self.most(look(within=3) | Now() - 9, Now(), 0)
        self.ages(look(within=3) | Now() - 9, ("most", 9))
        self.ages(look(within=9) | Now() - 3, ("most", 9))
        # The second look is gone through only where the first one finds nothing.
        self.ages(look(within=3) | look(within=9), ("most", 9))
        self.most(look(within=3) | look(way="after", within=2), Now(), 2)
        self.endless(look() | Now(), look("b"))

    def test_endless_behind_a_case_that_reaches_far(self):
        # Where there is no row, one is far behind other; where there is one, it can be farther still.
        for far in (0, 1, 2, 3, 4, 5, 6, 100, BIG):
            self.endless(look(way="since") | Now() + far, Now())
            self.endless((look(way="since") - 1) | Now() + far, Now())
            self.ages(look() | Now() - far, ("endless", None))
            self.ages(look("b", look()) | Now() - far, ("endless", None))
            self.ages(look("a", look(within=far), "at", far) | Now() - far, ("most", far))
            self.ages((look("b", within=far) - far) | look(), ("endless", None))
            self.most((look(way="since") | Now() + far).earlier(Now() + 3), Now(), 3)

    def test_later_and_earlier(self):
        self.ages(look().later(Now() - 8), ("most", 8))
        self.ages(look().later(look("b", within=8)), ("most", 8))
        self.ages(look().earlier(look("b", within=8)), ("endless", None))
        self.ages(look(within=9).earlier(look("b", within=8)), ("most", 9))
        self.most(look(way="since").earlier(Now() + 6), Now(), 6)
        self.most(look(way="since").earlier(look("b", way="since", within=7)), Now(), 7)
        self.endless(look(way="since").later(Now() + 6), Now())

    def test_numbers_of_any_size(self):
        self.ages(look("b", look(within=BIG), "at", BIG), ("most", 2 * BIG))
        self.endless(look("a", Now() - BIG), look("b"))
        self.most(look("a", Now() - BIG), Now(), -BIG)
        self.reached(look(way="since"), Now(), BIG)
        self.raises(NotMost, lead_paper, look(way="since"), Now(), BIG)
        self.same(is_lead_paper(look(within=BIG), Now() - 5, 5, lead_paper(look(within=BIG), Now() - 5, 5)), True)

    def test_one_row_is_enough_or_not(self):
        for one, other, n, rows in [
                (Now(), Now(), 0, 0), (Now() + 3, Now(), 3, 0), (Now(), look(), 9, 1), (look(way="since"), Now(), 9, 1),
                (look(), look(), 0, 1), (look(), look(way="before"), 0, 1), (look(), look(way="before"), 1, 2),
                (look(way="since"), look(), 0, 1), (look(way="since"), look(), 1, 2), (look(), look("b"), 0, 2),
                (look("a", look(way="before"), "after"), look(way="before"), 5, 2),
                (look("a", look(), "before") | Now(), Now() - 3, 3, 0),
                (look() | look("b"), look("b"), -5, 1), (look() | look("b"), look("b"), 1, 2),
                (Now(), look("a", look("a", look("a", look(), "before"), "before"), "before"), 3, 4),
                (look("d", look("c", look("b", look()))), Now() - 9, 0, 4)]:
            self.check(one, other)
            self.assertEqual(len(self.reached(one, other, n)), rows)

    def test_reaching_far_from_the_most(self):
        one, other = look(way="since", within=4), look("b", within=3)
        for n in [7, 6, 0, -100, -BIG]:
            self.reached(one, other, n)
        for n in [8, 9, 100, BIG]:
            self.assertIsNone(reaching(one, other, n))

    def test_many_pairs_of_small_terms(self):
        source = random.Random(61)
        terms = small_terms()
        words = []
        for _ in range(500):
            words.append(self.check(source.choice(terms), source.choice(terms))[0])
        for word in ("never", "most", "endless"):
            self.assertGreater(words.count(word), 20, word)

    def test_many_pairs_of_random_terms(self):
        source = random.Random(62)
        words = []
        for _ in range(400):
            words.append(self.check(*random_pair(source, 5))[0])
        for word in ("most", "endless"):
            self.assertGreater(words.count(word), 20, word)

    def test_many_pairs_with_small_and_large_numbers(self):
        source = random.Random(69)
        words = []
        for _ in range(400):
            words.append(self.check(*random_pair(source, 5, "ab", source.choice([5, 30, 10 ** 9])))[0])
        for word in ("most", "endless"):
            self.assertGreater(words.count(word), 20, word)

    def test_the_age_of_many_terms(self):
        for term in small_terms():
            self.same(age(term), lead(Now(), term))


class AllSmallWorlds(LeadTest):

    def compare(self, source, names, most, spread, depth):
        """The spans in all small worlds are those that are reached, and with as few rows."""
        tried = list(worlds(names, most, spread))
        words = []
        for _ in range(120):
            one, other = random_pair(source, depth, names)
            word, greatest = lead(one, other)
            words.append(word)
            least = {}
            for world in tried:
                found = span(one, other, world, 0)
                if found is not None:
                    least.setdefault(found, len(world))
            if word == "never":
                self.assertEqual(least, {})
            if word == "most":
                self.assertLessEqual(max(least, default=greatest), greatest)
            for n in range(-5, 6):
                rows = [least[found] for found in least if found >= n]
                pair = reaching(one, other, n)
                if pair is None:
                    self.assertEqual(rows, [])
                elif rows:
                    self.assertEqual(len(pair[0]), min(rows))
                else:
                    self.assertTrue(len(pair[0]) > most or greatest is None or greatest > 5)
        self.assertGreater(words.count("most"), 20)
        self.assertGreater(words.count("endless"), 3)

    def test_one_stream(self):
        self.compare(random.Random(63), "a", 3, 6, 4)

    def test_two_streams(self):
        self.compare(random.Random(64), "ab", 2, 5, 3)

    def test_the_most_is_found_in_small_worlds(self):
        """For small numbers, the greatest value is reached in a world that is tried."""
        source = random.Random(65)
        tried = list(worlds("a", 2, 9))
        terms = [term for term in small_terms() if term.looks == 1 and term.streams() == ["a"]]
        found = 0
        for _ in range(100):
            one, other = source.choice(terms), source.choice(terms)
            word, greatest = lead(one, other)
            if word == "most":
                found += 1
                values = [span(one, other, world, 0) for world in tried]
                self.assertEqual(max(value for value in values if value is not None), greatest)
        self.assertGreater(found, 40)

    def test_random_worlds(self):
        source = random.Random(66)
        for _ in range(200):
            one, other = random_pair(source, 5)
            word, greatest = lead(one, other)
            for _ in range(40):
                value = span(one, other, random_world(source, 5, 6), source.randint(-4, 4))
                if word == "never":
                    self.assertIsNone(value)
                elif word == "most" and value is not None:
                    self.assertLessEqual(value, greatest)


class Largest(LeadTest):

    def test_four_looks_of_one_stream(self):
        source = random.Random(67)
        words = []
        for _ in range(120):
            terms = [look("a", Now() + source.randint(-2, 2), source.choice(WAYS), source.choice([None, 0, 1, 4]))
                     for _ in range(4)]
            one, other = source.choice([
                (terms[0].later(terms[1]), terms[2].earlier(terms[3])), (terms[0] | terms[1], terms[2] | terms[3]),
                (look("a", terms[0] | terms[1], "after"), terms[2].later(Now())),
                (terms[0].later(terms[1]).earlier(terms[2]), terms[3])])
            words.append(self.check(one, other)[0])
        self.assertGreater(min(words.count("most"), words.count("endless")), 20)

    def test_chains_of_four_looks(self):
        for ways in itertools.product(WAYS, repeat=4):
            term = Now()
            for way in ways:
                term = look("a", term, way, 3)
            self.check(term, Now())
            self.check(Now(), term)
            half = look("a", look("a", Now(), ways[0]), ways[1])
            self.check(half, look("a", look("a", Now(), ways[2]), ways[3]))


class Limits(PastTest):

    def fits(self, one, other):
        for first, second in [(one, other), (other, one)]:
            lead(first, second)
            reaching(first, second, 0)
            is_lead_paper(first, second, 0, None)
            try:
                lead_paper(first, second, 0)
            except NotMost:
                pass

    def breaks(self, one, other):
        for first, second in [(one, other), (other, one)]:
            self.raises(TooMany, lead, first, second)
            for n in [0, None, True, "x"]:
                self.raises(TooMany, reaching, first, second, n)
                self.raises(TooMany, lead_paper, first, second, n)
                for thing in [None, ("fine",), ("ring", (0,)), ("cases", ())]:
                    self.raises(TooMany, is_lead_paper, first, second, n, thing)

    def test_looks(self):
        self.fits(looks(4), Now())
        self.fits(looks(2), looks(2))
        self.fits(looks(1), looks(3))
        self.breaks(looks(5), Now())
        self.breaks(looks(3), looks(2))
        self.breaks(looks(4), looks(1))
        self.breaks(looks(12), looks(12))

    def test_choices(self):
        now = Now()
        three = now.later(now).later(now).earlier(now)
        self.fits(three, three)
        self.breaks(three, three.later(now))
        self.fits(three.later(now).later(now).earlier(now), now)
        self.breaks(three.earlier(three), now)
        self.fits(looks(4).later(now), now.earlier(now))
        self.breaks(looks(4).later(now).later(now), now.earlier(now))

    def test_the_age(self):
        now = Now()
        age(looks(4))
        age(looks(4).later(now).later(now))
        age(now.later(now).later(now).later(now).earlier(now).earlier(now).earlier(now))
        self.raises(TooMany, age, looks(5))
        self.raises(TooMany, age, looks(4).later(now).later(now).later(now))
        self.raises(TooMany, age, now.later(now).later(now).later(now).earlier(now).earlier(now).earlier(now).later(now))

    def test_many_parts_with_few_looks(self):
        term = nows(18)
        self.fits(look() | term, term)
        age(look() | term | Now())
        chain = look()
        for count in range(5):
            chain = (chain | Now() + count) + 1
        self.fits(chain, chain)

    def test_wrong_terms(self):
        for wrong in NO_TERMS:
            self.raises(BadTerm, age, wrong, value=wrong)
            self.raises(BadTerm, lead, wrong, None, value=wrong)
            self.raises(BadTerm, lead, looks(12), wrong, value=wrong)
            for n in [0, None]:
                self.raises(BadTerm, reaching, wrong, None, n, value=wrong)
                self.raises(BadTerm, reaching, looks(12), wrong, n, value=wrong)
                self.raises(BadTerm, lead_paper, wrong, None, n, value=wrong)
                self.raises(BadTerm, lead_paper, looks(12), wrong, n, value=wrong)
                self.raises(BadTerm, is_lead_paper, wrong, None, n, None, value=wrong)
                self.raises(BadTerm, is_lead_paper, looks(12), wrong, n, None, value=wrong)

    def test_wrong_numbers(self):
        for wrong in NO_INTEGERS:
            for one, other in [(Now(), Now()), (look(), NEVER_FOUND), (looks(4), Now())]:
                self.raises(BadMoment, reaching, one, other, wrong, value=wrong)
                self.raises(BadMoment, lead_paper, one, other, wrong, value=wrong)
                for thing in [None, ("fine",), ("ring", (0,)), NO_PAPERS]:
                    self.raises(BadMoment, is_lead_paper, one, other, wrong, thing, value=wrong)


class SameAnswers(LeadTest):

    def test_the_same_call_gives_the_same_answer(self):
        source = random.Random(68)
        for _ in range(60):
            one, other = random_pair(source, 4)
            self.same(lead(one, other), lead(one, other))
            self.assertEqual(reaching(one, other, 0), reaching(one, other, 0))

    def test_a_new_world(self):
        world, now = reaching(Now(), look(), 3)
        world["a"] = []
        world["b"] = [1]
        self.reached(Now(), look(), 3)


if __name__ == "__main__":
    unittest.main()
