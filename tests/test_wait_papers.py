"""Points 25 to 30 and 34: papers for the question settled."""

import random
import unittest

from judge import FINE, Way, beside, cases, changed, judge, ring, settled_end, with_paper
from pastlooks.errors import NotSettled
from pastlooks.terms import Now
from pastlooks.verdicts import is_paper, paper
from pastlooks.waits import is_wait_paper, least_wait, wait_paper
from support import BIG, NO_INTEGERS, NO_PAPERS, PastTest, look, nested_tuple, random_term, small_terms

NEVER = look(way="before", within=0)


def both(index):
    """For the choice that two answers leave, if both are the same variable: the fact of each case is a ring."""
    return cases(ring(index), ring(index))


# A paper for the last row of a at or before now, with a lateness of 3 and a wait of 3.
# First nothing is found: stretch 0. Then nothing is found either, or a known row 2, or an unknown row 2.
NOTHING = cases(FINE, beside(2, 0, ring(2, 3)), ring(0, 1, 2))
# First a known row 2 is found, by the facts 1 and 2 and with stretch 0. Then nothing, row 2, or a new row 3.
ANOTHER = cases(beside(3, 0, ring(5, 6), ring(4, 6)), beside(2, 1, ring(5, 6), ring(2, 6)))
FOUND = cases(beside(2, 1, ring(2, 3)), both(4), ANOTHER, ring(0, 3, 4))
THREE = {"a": 3}


class PaperTest(PastTest):

    def accepts(self, term, lateness, wait, *things):
        for thing in things:
            self.same(is_wait_paper(term, lateness, wait, thing), True)
            self.assertTrue(judge(settled_end(lateness, wait), term, term, thing))
            for wrong in changed(thing):
                wanted = judge(settled_end(lateness, wait), term, term, wrong)
                self.same(is_wait_paper(term, lateness, wait, wrong), wanted)

    def rejects(self, term, lateness, wait, *things):
        for thing in things:
            self.same(is_wait_paper(term, lateness, wait, thing), False)
            self.assertFalse(judge(settled_end(lateness, wait), term, term, thing))


class Cases(PaperTest):

    def test_a_whole_paper(self):
        self.accepts(look(), THREE, 3, cases(NOTHING, FOUND))
        self.accepts(look(), THREE, 4, cases(NOTHING, FOUND))
        self.accepts(look(), {"a": 2}, 3, cases(NOTHING, FOUND))
        self.rejects(look(), THREE, 2, cases(NOTHING, FOUND))
        self.rejects(look(), {"a": 4}, 3, cases(NOTHING, FOUND))
        self.rejects(look(), THREE, 3, cases(FOUND, NOTHING), NOTHING, FOUND, cases(NOTHING, NOTHING), cases(NOTHING))

    def test_the_first_fact(self):
        # (0, 1, -wait) and (0, 0, -1) for the choice of two answers.
        self.accepts(Now(), {}, 0, both(1))
        self.rejects(Now(), {}, 0, both(0), ring(0), ring(1), FINE)
        self.accepts(Now() + 3, {}, BIG, both(1))
        # A row that is unknown at the moment of knowing is behind now: (0, 1, -wait), (1, 2, lateness - 1), (2, 0, 0).
        for late, wait in [(0, 0), (3, 3), (3, 9), (BIG, BIG)]:
            self.accepts(look(), {"a": late}, wait, cases(NOTHING, FOUND))
        for late, wait in [(1, 0), (3, 2), (BIG + 1, BIG)]:
            self.rejects(look(), {"a": late}, wait, cases(NOTHING, FOUND))

    def test_a_new_row_of_the_first_going_is_known(self):
        # Its first fact is (2, 1, 0); then there are two cases alone: it is never unknown.
        term = look(way="since", within=0).earlier(Now() - 1)
        self.assertEqual(least_wait(term, {"a": 2}), 2)
        thing = wait_paper(term, {"a": 2}, 2)
        self.assertEqual([len(thing[1]), len(thing[1][0][1])], [2, 3])
        self.accepts(term, {"a": 2}, 2, thing)

    def test_the_cases_of_the_second_going(self):
        # Nothing; the rows of the same stream in their order; a new known row; a new unknown row.
        for wrong in [cases(*NOTHING[1][:2]), cases(FINE, ring(0, 1, 2), beside(2, 0, ring(2, 3))),
                      cases(FINE, beside(2, 0, ring(2, 3)), beside(2, 0, ring(2, 3)), ring(0, 1, 2)),
                      cases(FINE, ring(0, 1, 2), ring(0, 1, 2)), cases(FINE, FINE, ring(0, 1, 2))]:
            self.rejects(look(), THREE, 3, cases(wrong, FOUND))
        nothing, same, other, unknown = FOUND[1]
        for wrong in [cases(nothing, same, unknown, other), cases(nothing, other, same, unknown),
                      cases(same, nothing, other, unknown), cases(nothing, same, other), cases(nothing, same, unknown),
                      cases(nothing, same, other, unknown, unknown), cases(FINE, same, other, unknown)]:
            self.rejects(look(), THREE, 3, cases(NOTHING, wrong))

    def test_a_row_that_was_added_before_has_no_further_fact(self):
        # The fact of the same row's second finding is the one behind it, and the next one is that of the choice.
        self.accepts(look(), THREE, 3, cases(NOTHING, with_paper(FOUND, (1,), both(4))))
        self.rejects(look(), THREE, 3, cases(NOTHING, with_paper(FOUND, (1,), both(5))),
                     cases(NOTHING, with_paper(FOUND, (1,), both(3))))

    def test_the_facts_of_a_limit_stand_behind_the_first_fact(self):
        # Known: (2, 1, 0), (2, 0, 0), (0, 2, 5). Unknown: (1, 2, 2), (2, 0, 0), (0, 2, 5).
        nothing = cases(FINE, beside(2, 0, ring(3, 4), ring(2, 4)), ring(0, 1, 2))
        another = cases(beside(3, 0, ring(7, 8), ring(5, 8)), beside(2, 1, ring(7, 8), ring(2, 8)))
        found = cases(beside(2, 1, ring(3, 4), ring(2, 4)), both(6), another, ring(0, 4, 5))
        self.accepts(look(within=5), THREE, 3, cases(nothing, found))
        self.rejects(look(within=5), THREE, 2, cases(nothing, found))
        self.rejects(look(within=5), THREE, 3, cases(NOTHING, FOUND))

    def test_the_known_rows_come_first(self):
        # In the case that nothing is known and an unknown row is found, the choice of two answers does not stand.
        self.rejects(look(), THREE, 3, cases(cases(FINE, beside(2, 0, ring(2, 3)), both(3)), FOUND))
        # In the case of two different rows, the known one is one and the other one is other.
        turned = cases(*reversed(ANOTHER[1]))
        self.rejects(look(), THREE, 3, cases(NOTHING, with_paper(FOUND, (2,), turned)))

    def test_both_goings_find_nothing(self):
        self.accepts(NEVER, THREE, 0, cases(cases(FINE, ring(2, 3), ring(2, 3)), ring(2, 3)))
        self.accepts(NEVER, THREE, 0, cases(cases(FINE, ring(3, 2), ring(2, 3)), cases(ring(2, 3), *[ring(3, 2)] * 3)))
        self.rejects(NEVER, THREE, 0, cases(cases(FINE, ring(1, 2), ring(2, 3)), ring(2, 3)), FINE,
                     cases(FINE, ring(2, 3)), cases(cases(ring(2, 3), ring(2, 3), ring(2, 3)), ring(2, 3)))

    def test_later_and_earlier_are_chosen_in_both_goings(self):
        for term in [Now().later(Now() - 1), Now().earlier(Now() + 1)]:
            # (0, 0, 1) or (0, 0, -2), twice, and then the choice of two answers.
            thing = cases(cases(both(3), ring(2)), ring(1))
            self.accepts(term, {}, 0, thing, cases(cases(both(3), ring(2)), cases(ring(1), ring(1))))
            self.rejects(term, {}, 0, cases(both(2), ring(1)), both(1), cases(ring(1), cases(both(3), ring(2))))


class Beside(PaperTest):
    """Which rows may stand beside which stretches (points 29 and 34)."""

    def test_an_unknown_row_may_lie_in_a_stretch_of_the_first_going(self):
        # An unknown row 3: the facts 3 and 4, and 5 for the choice; row 3 lies in stretch 0, from 2 + 1 to now.
        ended = cases(ring(0, 3, 4), ring(0, 3, 4))
        self.accepts(look(), THREE, 3, cases(NOTHING, with_paper(FOUND, (3,), ended)))
        closing = beside(3, 0, ring(5, 6), ring(4, 6))
        self.rejects(look(), THREE, 3, cases(NOTHING, with_paper(FOUND, (3,), cases(closing, ring(0, 3, 4)))))
        # The same for the known row 3.
        self.accepts(look(), THREE, 3, cases(NOTHING, with_paper(FOUND, (2, 0), closing)))
        # Nothing is known, and an unknown row 2: it may lie in stretch 0, up to now.
        closing = beside(2, 0, ring(2, 3))
        self.rejects(look(), THREE, 3, cases(with_paper(NOTHING, (2,), closing), FOUND))
        self.accepts(look(), THREE, 3, cases(with_paper(NOTHING, (1,), closing), FOUND))

    def test_a_known_row_does_not_lie_in_a_stretch_of_the_second_going(self):
        # Row 2 and stretch 1, which ends at now, or which lies between the unknown row 3 and now.
        self.accepts(look(), THREE, 3, cases(NOTHING, with_paper(FOUND, (0,), beside(2, 1, ring(2, 3)))))
        closing = beside(2, 1, ring(5, 6), ring(2, 6))
        unknown = cases(ring(0, 3, 4), closing)
        self.accepts(look(), THREE, 3, cases(NOTHING, with_paper(FOUND, (3,), unknown)))

    def test_an_unknown_row_does_not_lie_in_a_stretch_of_the_second_going(self):
        # Nothing is found at now; then a row is found there.
        term = look(within=0) | look(way="since", within=0)
        lateness, wait = {"a": 1}, 1
        thing = wait_paper(term, lateness, wait)
        # Nothing and nothing is known; in the second going nothing, and then an unknown row 2.
        self.accepts(term, lateness, wait, with_paper(thing, (0, 0, 0, 2), ring(0, 1, 3)))
        # The facts are (0, 1, -1), (1, 2, 0), (0, 2, 0), (2, 0, 0), and those of row 2 ahead of now or behind it.
        # Such a row does not lie in stretch 2, and a known row 2 lies in none of the three stretches.
        for stretch in (0, 1, 2, 3):
            closing = beside(2, stretch, ring(2, 4), ring(3, 4))
            unknown, known = with_paper(thing, (0, 0, 0, 2), closing), with_paper(thing, (0, 0, 0, 1), closing)
            for made, wanted in [(unknown, stretch == 2), (known, stretch < 3)]:
                self.same(is_wait_paper(term, lateness, wait, made), wanted)
                self.assertEqual(judge(settled_end(lateness, wait), term, term, made), wanted)

    def test_moments_are_no_rows(self):
        for row in (0, 1, 3, -1, BIG):
            self.rejects(look(), THREE, 3, cases(with_paper(NOTHING, (1,), beside(row, 0, ring(2, 3))), FOUND))
            self.rejects(look(), THREE, 3, cases(NOTHING, with_paper(FOUND, (0,), beside(row, 1, ring(2, 3)))))

    def test_streams_do_not_mix(self):
        term = look("b", within=0) | look(within=0)
        lateness = {"a": 1, "b": 1}
        thing = wait_paper(term, lateness, 1)
        self.accepts(term, lateness, 1, thing)
        # Nothing and nothing is known, then nothing of b, and a known row 2 of a: stretch 1 is the one of a.
        for stretch in (0, 1, 2, 3):
            closing = with_paper(thing, (0, 0, 0, 1), beside(2, stretch, ring(3, 4), ring(2, 4)))
            self.same(is_wait_paper(term, lateness, 1, closing), stretch == 1)

    def test_numbers_are_integers(self):
        for wrong in NO_INTEGERS:
            for closing in [beside(wrong, 0, ring(2, 3)), beside(2, wrong, ring(2, 3)), beside(2, 0, ring(wrong, 3)),
                            beside(2, 0, ring(2, wrong))]:
                self.same(is_wait_paper(look(), THREE, 3, cases(with_paper(NOTHING, (1,), closing), FOUND)), False)


class Judging(PaperTest):

    def test_anything_else_is_no_paper(self):
        for thing in NO_PAPERS:
            self.same(is_wait_paper(look(), THREE, 3, thing), False)
            self.same(is_wait_paper(look(), THREE, 3, cases(NOTHING, thing)), False)
            self.same(is_wait_paper(look(), THREE, 3, cases(thing, FOUND)), False)
            self.same(is_wait_paper(look(), THREE, 3, cases(NOTHING, with_paper(FOUND, (0,), thing))), False)
            self.same(is_wait_paper(look(), THREE, 3, ("cases", thing)), False)

    def test_however_deep_and_large(self):
        deep = ring(0)
        for _ in range(100000):
            deep = beside(2, 0, deep, deep)
        for thing in [deep, nested_tuple(100000)]:
            self.same(is_wait_paper(look(), THREE, 3, thing), False)
            self.same(is_wait_paper(look(), THREE, 3, cases(with_paper(NOTHING, (1,), thing), FOUND)), False)

    def test_papers_for_many_terms(self):
        source = random.Random(91)
        found = {True: 0, False: 0}
        unknown = 0
        papers = 0
        while papers < 220:
            term = random_term(source, source.randint(1, 4), "ab", 2) if papers % 3 else source.choice(small_terms())
            if term.looks > 2 or term.choices > 3:
                continue
            lateness = {"a": source.randint(0, 3), "b": source.randint(0, 2)}
            least = least_wait(term, lateness)
            if least is None:
                continue
            papers += 1
            wait = least + source.choice([0, 0, 1, 5])
            end = settled_end(lateness, wait)
            thing = wait_paper(term, lateness, wait)
            self.same(is_wait_paper(term, lateness, wait, thing), True)
            self.assertTrue(judge(end, term, term, thing))
            wrong = list(changed(thing))
            for other in source.sample(wrong, min(len(wrong), 150)):
                wanted = judge(end, term, term, other)
                found[wanted] += 1
                self.same(is_wait_paper(term, lateness, wait, other), wanted)
            unknown += names_unknown(end, term, thing)
            if least:
                self.same(is_wait_paper(term, lateness, least - 1, thing), False)
            self.same(is_wait_paper(term, lateness, wait + 1, thing), judge(
                settled_end(lateness, wait + 1), term, term, thing))
        self.assertGreater(found[False], 8000)
        self.assertGreater(found[True], 50)
        self.assertGreater(unknown, 0)

    def test_papers_of_other_terms(self):
        source = random.Random(92)
        terms = [term for term in small_terms() if least_wait(term, {"a": 2, "b": 1}) is not None]
        papers = [wait_paper(term, {"a": 2, "b": 1}, least_wait(term, {"a": 2, "b": 1})) for term in terms]
        found = {True: 0, False: 0}
        for term in terms:
            for thing in source.sample(papers, 30):
                lateness, wait = {"a": source.randint(0, 2), "b": 1}, source.randint(0, 4)
                wanted = judge(settled_end(lateness, wait), term, term, thing)
                found[wanted] += 1
                self.same(is_wait_paper(term, lateness, wait, thing), wanted)
                if wanted:
                    self.assertLessEqual(least_wait(term, lateness), wait)
        self.assertGreater(found[True], 30)

    def test_a_paper_for_another_question(self):
        thing = paper(look(), look())
        self.assertTrue(is_paper(look(), look(), thing))
        self.rejects(look(), THREE, 3, thing)

    def test_other_keys_of_the_lateness(self):
        for lateness in [{"a": 3, "b": -1, 5: None}, {"z": [], "a": 3}]:
            self.same(is_wait_paper(look(), lateness, 3, cases(NOTHING, FOUND)), True)
            self.same(is_wait_paper(look(), lateness, 2, cases(NOTHING, FOUND)), False)

    def test_no_paper(self):
        self.raises(NotSettled, wait_paper, look(), THREE, 2)
        self.raises(NotSettled, wait_paper, look(), THREE, 0)
        self.raises(NotSettled, wait_paper, look(way="since"), {"a": 0}, BIG)
        wait_paper(look(), THREE, 3)
        wait_paper(NEVER, THREE, 0)


def names_unknown(end, term, thing, taken=()):
    """Whether somewhere in the paper an unknown row stands beside a stretch."""
    if thing[0] == "cases":
        return any(names_unknown(end, term, paper_there, (*taken, case)) for case, paper_there in enumerate(thing[1]))
    if thing[0] != "beside":
        return False
    way = Way(taken)
    end(way, term, term)
    return thing[1] in way.unknown or any(names_unknown(end, term, below, taken) for below in thing[3])


if __name__ == "__main__":
    unittest.main()
