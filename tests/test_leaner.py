"""Points 2, 22 and 35: leaner terms."""

import random
import unittest

from pastlooks.errors import BadTerm, TooMany
from pastlooks.leaner import lean, leaner
from pastlooks.terms import Now
from pastlooks.verdicts import alike
from support import BIG, NO_TERMS, WAYS, PastTest, look, looks, nows, random_term, small_terms

NEVER = look(way="before", within=0)


def fits(term):
    return term.looks <= 2 and term.choices <= 3


def pairs_by_trying(term):
    """Point 35 word by word."""
    found = []
    for path in term.part_paths():
        part = term.part_at(path)
        below = [child for child in (getattr(part, name, None) for name in ("moment", "first", "second")) if child]
        for index, child in enumerate(below):
            if alike(term.with_part(path, child), term):
                found.append((path, index))
    return sorted(found)


def lean_by_trying(term):
    while pairs_by_trying(term):
        path, index = pairs_by_trying(term)[0]
        term = term.with_part(path, term.part_at((*path, index)))
    return term


class Leaner(PastTest):

    def check(self, term, pairs, leanest=None):
        self.same(leaner(term), pairs)
        self.assertEqual(lean(term), term if leanest is None else leanest)

    def test_nothing_is_leaner(self):
        for term in [Now(), Now() + 5, look(), look(within=3) - 2, look(way="before").later(Now()), look("b", look()),
                     look() | look("b"), look().earlier(look("b")), look("a", look(), "before"), look() | Now(),
                     look("a", look(), "after")]:
            self.check(term, [])

    def test_either(self):
        self.check(look() | look(), [((), 0), ((), 1)], look())
        self.check(Now() | look(), [((), 0), ((1,), 0)], Now())
        self.check(Now() | Now(), [((), 0), ((), 1)], Now())
        self.check(Now() | Now() + 1, [((), 0), ((1,), 0)], Now())
        self.check(look(within=2) | look(within=5), [((), 1)], look(within=5))
        self.check(look(within=5) | look(within=2), [((), 0)], look(within=5))
        self.check(NEVER | look(), [((), 1)], look())
        self.check(look() | NEVER, [((), 0)], look())

    def test_later_and_earlier(self):
        self.check(Now().later(Now() - 2), [((), 0), ((1,), 0)], Now())
        self.check(Now().earlier(Now() - 2), [((), 1)], Now() - 2)
        self.check(Now().earlier(Now() + 2), [((), 0), ((1,), 0)], Now())
        self.check(look().later(look(way="before")), [])
        self.check(look().earlier(Now()), [((), 0)], look())
        self.check(look(way="since").later(look()), [])
        self.check(look().later(look()), [((), 0), ((), 1)], look())

    def test_looks(self):
        self.check(look("a", look()), [((), 0), ((0,), 0)], look())
        self.check(look("a", look(), "since"), [((), 0)], look())
        self.check(look("a", look(within=0), "since"), [((), 0)], look(within=0))
        self.check(look("a", NEVER), [((), 0)], NEVER)

    def test_shifts(self):
        self.check(NEVER + 1, [((), 0)], NEVER)
        self.check(look("b", NEVER + 1), [((), 0), ((0,), 0)], NEVER)
        self.check((NEVER | Now()) + 1, [((0,), 1), ((0, 0), 0)], Now() + 1)

    def test_shifts_are_joined(self):
        # The shift by 3 comes to stand directly inside the one by -3, and both vanish.
        term = (Now() + 3).later(Now()) - 3
        self.check(term, [((0,), 0)], Now())
        self.check((Now() + 3).later(Now()) - 5, [((0,), 0)], Now() - 2)
        term = look("a", (Now() + 3).later(Now() + 2) - BIG)
        self.check(term, [((0, 0), 0), ((0, 0, 1), 0)], look("a", Now() + 3 - BIG))

    def test_pairs_are_ordered_by_the_paths(self):
        # The path (0, 0) stands ahead of (1,), although it is longer, and behind (0,).
        twice = (Now() | Now()) | (Now() | Now())
        self.check(twice, [((), 0), ((), 1), ((0,), 0), ((0,), 1), ((1,), 0), ((1,), 1)], Now())
        deep = (look("a", look()) | Now()).earlier(Now() | Now())
        self.check(deep, [((), 0), ((0, 0), 0), ((0, 0, 0), 0), ((1,), 0), ((1,), 1)], look() | Now())

    def test_the_first_pair_is_taken(self):
        # The second pair would leave another term, although it is alike.
        one, other = look(), look("a", Now() + 1, "before")
        self.check(other | one, [((), 0), ((), 1)], other)
        self.check(one | other, [((), 0), ((), 1), ((1, 0), 0)], one)

    def test_the_term_itself(self):
        for term in [Now(), look() | Now(), look("b", look())]:
            self.assertIs(lean(term), term)

    def test_the_term_stays(self):
        term = look("a", look()) | Now()
        leaner(term)
        lean(term)
        self.assertEqual(term, look("a", look()) | Now())

    def test_a_new_list(self):
        found = leaner(look() | look())
        found.clear()
        self.same(leaner(look() | look()), [((), 0), ((), 1)])

    def test_numbers_of_any_size(self):
        self.check(look(within=BIG) | look(within=BIG + 1), [((), 1)], look(within=BIG + 1))

    def test_many_small_terms(self):
        for term in small_terms():
            self.same(leaner(term), pairs_by_trying(term))
            self.assertEqual(lean(term), lean_by_trying(term))

    def test_many_random_terms(self):
        source = random.Random(95)
        found = 0
        for _ in range(400):
            term = random_term(source, source.randint(2, 5), "ab", 2)
            if fits(term):
                pairs = pairs_by_trying(term)
                found += len(pairs) > 1
                self.same(leaner(term), pairs)
                leanest = lean(term)
                self.assertEqual(leanest, lean_by_trying(term))
                self.same(leaner(leanest), [])
                self.assertTrue(alike(leanest, term))
                self.assertLessEqual(leanest.parts, term.parts)
        self.assertGreater(found, 80)

    def test_long_terms(self):
        self.assertEqual(len(leaner(nows(20))), 38)
        self.assertEqual(lean(nows(20)), Now())
        self.assertEqual(lean((nows(10) | nows(9)) + 1), Now() + 1)
        self.assertEqual(lean(look("a", nows(9)) | look("b", nows(9))), look("a") | look("b"))
        chain = look()
        for count in range(5):
            chain = (chain | Now() + count) + 1
        self.assertEqual(chain.depth, 12)
        self.assertEqual(lean(chain), (look() | Now()) + 5)

    def test_the_largest_terms(self):
        source = random.Random(96)
        for _ in range(60):
            first, second = [look("a", Now() + source.randint(-1, 1), source.choice(WAYS), source.choice([None, 0, 2]))
                             for _ in range(2)]
            term = source.choice([first.later(second), second.earlier(Now()) | first, look("a", first).earlier(Now())])
            term = term | nows(10)
            self.same(leaner(term), pairs_by_trying(term))
            self.assertTrue(alike(lean(term), term))


class Checks(PastTest):

    def test_wrong_terms(self):
        for wrong in NO_TERMS:
            self.raises(BadTerm, leaner, wrong, value=wrong)
            self.raises(BadTerm, lean, wrong, value=wrong)

    def refused(self, term):
        self.raises(TooMany, leaner, term)
        self.raises(TooMany, lean, term)

    def test_looks(self):
        lean(looks(2))
        lean(look("b", look()))
        leaner(look("b", look()))
        self.refused(looks(3))
        self.refused(looks(12))
        self.refused(look("c", look("b", look())))
        # Also where the limits would hold for the term that comes of it.
        self.refused(look() | look() | look())

    def test_choices(self):
        now = Now()
        three = now.later(now).earlier(now).later(now)
        self.assertEqual(lean(three), now)
        self.assertEqual(leaner(three)[:2], [((), 0), ((), 1)])
        self.refused(three.earlier(now))
        lean(looks(2).later(now))
        self.refused(looks(2).later(now).earlier(now))
        lean(look().later(now).earlier(now))
        self.refused(look().later(now).earlier(now).later(now))


if __name__ == "__main__":
    unittest.main()
