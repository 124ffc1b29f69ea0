"""Points 25 to 30: papers for the questions alike and covers."""

import random
import unittest

from judge import FINE, alike_end, beside, cases, changed, covers_end, judge, ring, with_paper
from pastlooks.errors import NotCovered, Unlike
from pastlooks.terms import Now
from pastlooks.verdicts import alike, cover_paper, covers, is_cover_paper, is_paper, paper
from support import BIG, NO_INTEGERS, NO_PAPERS, PastTest, look, nested_list, nested_tuple, random_term

NEVER = look(way="before", within=0)


def both(index):
    """For the choice that two answers leave, if both are the same variable: the fact of each case is a ring."""
    return cases(ring(index), ring(index))


# A row at now, and the paper that shows that this look is alike to itself.
AT = look(within=0)
NOTHING = cases(FINE, beside(1, 0, ring(2, 1), ring(2, 0)))
ENDS = [beside(1, 1, ring(2, 1), ring(2, 0)), both(4), cases(ring(4, 2, 1), ring(4, 0, 3))]
FOUND = cases(*ENDS)


class PaperTest(PastTest):

    def accepts(self, one, other, thing):
        self.same(is_paper(one, other, thing), True)
        self.assertTrue(judge(alike_end, one, other, thing))
        self.assertTrue(alike(one, other))
        self.judged_alike(one, other, thing)

    def judged_alike(self, one, other, thing):
        """Each way to change one entry is judged as the other judge says."""
        for wrong in changed(thing):
            self.same(is_paper(one, other, wrong), judge(alike_end, one, other, wrong))

    def rejects(self, one, other, *things):
        for thing in things:
            self.same(is_paper(one, other, thing), False)
            self.assertFalse(judge(alike_end, one, other, thing))

    def accepts_cover(self, one, other, thing):
        self.same(is_cover_paper(one, other, thing), True)
        self.assertTrue(judge(covers_end, one, other, thing))
        self.assertTrue(covers(one, other))
        for wrong in changed(thing):
            self.same(is_cover_paper(one, other, wrong), judge(covers_end, one, other, wrong))

    def rejects_cover(self, one, other, *things):
        for thing in things:
            self.same(is_cover_paper(one, other, thing), False)
            self.assertFalse(judge(covers_end, one, other, thing))


class TwoAnswers(PaperTest):
    """Terms without looks: the choices of later, earlier and alike, and their facts."""

    def test_now_and_now(self):
        self.accepts(Now(), Now(), cases(ring(0), ring(0)))
        self.accepts(Now(), Now(), cases(ring(0, 0), ring(0, 0, 0)))
        self.rejects(Now(), Now(), FINE, ring(0), cases(FINE, FINE), cases(ring(0)), cases(ring(0), ring(1)),
                     cases(ring(0), ring(0), ring(0)), cases(ring(0), ring()), cases(both(0), ring(0)))

    def test_the_facts_of_alike(self):
        # One fact says that one is below other, the other fact that it is above.
        self.rejects(Now(), Now() + 1, cases(ring(0), ring(0)))
        self.rejects(Now() + 1, Now(), cases(ring(0), ring(0)))
        self.accepts(Now() + BIG, Now() + BIG, cases(ring(0), ring(0)))
        # With a row, each of both facts leads the other way.
        one = look(within=0) | Now()
        self.accepts(one, Now(), cases(both(0), cases(ring(2, 1), ring(2, 0))))
        self.rejects(one, Now(), cases(both(0), cases(ring(2, 0), ring(2, 1))))

    def test_shifts(self):
        self.accepts(Now() + 5, (Now() + 7) - 2, cases(ring(0), ring(0)))
        one = look("a", Now() + 3, within=0) - 3
        self.accepts(one | Now(), Now(), cases(both(0), cases(ring(2, 1), ring(2, 0))))

    def test_later(self):
        one, other = Now(), Now() + 1
        # (0, 0, -1): now + 1 is at most now. (0, 0, 0): now is at most now + 1 - 1.
        self.accepts(one.later(other), other, cases(ring(0), both(1)))
        # (0, 0, 1), and (0, 0, -2): now + 1 is at most now - 1.
        self.accepts(other.later(one), other, cases(both(1), ring(0)))
        # (0, 0, 0), and (0, 0, -1): the choice is made although both are the same.
        self.accepts(one.later(one), one, cases(both(1), ring(0)))
        self.accepts(one.later(one), one, cases(both(1), both(1)))
        self.accepts(one.later(one), one, cases(both(1), cases(ring(0), ring(1))))
        self.rejects(one.later(one), one, both(0), cases(both(1), both(2)), cases(both(0), ring(0)),
                     cases(ring(0), ring(0)), cases(ring(1), ring(0)))

    def test_earlier(self):
        one, other = Now(), Now() + 1
        # (0, 0, 1), and (0, 0, -2).
        self.accepts(one.earlier(other), one, cases(both(1), ring(0)))
        # (0, 0, -1), and (0, 0, 0).
        self.accepts(other.earlier(one), one, cases(ring(0), both(1)))
        self.accepts(one.earlier(one), one, cases(both(1), ring(0)))
        self.rejects(one.earlier(one), one, both(0), cases(both(1), FINE), cases(ring(0), ring(0)))

    def test_the_numbers_of_later_and_earlier(self):
        # How often a fact of below 0 is needed beside one above 0 shows their numbers.
        later = (Now() + 3).later(Now())        # (0, 0, 3) or (0, 0, -4)
        self.accepts(later, Now() + 3, cases(both(1), ring(0)))
        self.accepts(later, Now() + 3, cases(cases(ring(0, 1, 1, 1, 1), ring(1, 1, 0, 1, 1)), ring(0)))
        self.rejects(later, Now() + 3, cases(cases(ring(0, 1, 1, 1), ring(1)), ring(0)))
        earlier = Now().earlier(Now() + 3)      # (0, 0, 3) or (0, 0, -4)
        self.accepts(earlier, Now(), cases(cases(ring(0, 1, 1, 1, 1), ring(1)), ring(0)))
        self.rejects(earlier, Now(), cases(cases(ring(0, 1, 1, 1), ring(1)), ring(0)))
        unequal = Now().later(Now() - 3)        # (0, 0, 3) or (0, 0, -4), then twice (0, 0, -1)
        self.accepts(unequal, Now(), cases(cases(ring(0, 1, 1, 1, 1), ring(1)), cases(ring(0), ring(1, 0))))

    def test_either(self):
        self.accepts(Now() | Now() + 1, Now(), cases(ring(0), ring(0)))
        self.accepts(Now() | look(), Now(), cases(ring(0), ring(0)))
        self.rejects(Now() | look(), Now(), cases(both(0), both(0)))

    def test_nothing_ends_later_and_earlier(self):
        # If the look finds nothing, the second part is not gone through, and neither is there a choice.
        for one in [NEVER.later(look("b")), NEVER.earlier(look("b"))]:
            self.accepts_cover(Now(), one, cases(FINE, cases(FINE, cases(FINE, FINE))))
            self.accepts_cover(Now(), one, cases(FINE, ring(0, 1)))
            self.rejects_cover(Now(), one, cases(cases(FINE, FINE), ring(0, 1)), cases(FINE, cases(FINE, FINE)))
        for one in [Now().later(NEVER), Now().earlier(NEVER)]:
            self.accepts_cover(Now(), one, cases(FINE, cases(FINE, FINE)))
            self.accepts_cover(Now(), one, cases(FINE, ring(1, 0)))


class Looks(PaperTest):
    """The cases of a look: its facts, in their order and with their numbers, and its stretches."""

    def test_the_facts_of_a_row(self):
        # Each of these looks finds a row at now + 2 alone, which two facts say: first at and before (1, 0, 2),
        # then (0, 1, -2); since and after the other way around. The third fact is (1, 0, 1) or (0, 1, -3).
        wanted = Now() + 2
        for one in [look("a", Now() + 2, "at", 0), look("a", Now() + 3, "before", 1)]:
            self.accepts(one | wanted, wanted, cases(both(0), cases(ring(2, 1), ring(2, 0))))
        for one in [look("a", Now() + 2, "since", 0), look("a", Now() + 1, "after", 1)]:
            self.accepts(one | wanted, wanted, cases(both(0), cases(ring(2, 0), ring(2, 1))))
        for one in [look("a", Now() + 2, "at", 1), look("a", Now() + 3, "before", 2),
                    look("a", Now() + 2, "since", 1), look("a", Now() + 1, "after", 2)]:
            self.rejects(one | wanted, wanted, cases(both(0), cases(ring(2, 1), ring(2, 0))),
                         cases(both(0), cases(ring(2, 0), ring(2, 1))))

    def test_a_row_without_a_limit_has_one_fact(self):
        for way, first, second in [("at", 0, 1), ("before", -1, 0), ("since", 0, -1), ("after", 1, 0)]:
            # The later or earlier one of the row and what it may be at most or at least.
            one, edge = look(way=way), Now() + first
            kept = one.earlier(edge) if way in ("at", "before") else one.later(edge)
            wanted = look(way=way)
            self.accepts(kept, wanted, paper(kept, wanted))
            # Behind the row's one fact, the fact of the second case of the choice contradicts it.
            thing = paper(kept, wanted)
            self.assertEqual(thing[1][1][1][1], ring(1, 0))
            self.accepts(kept, wanted, cases(thing[1][0], cases(thing[1][1][1][0], ring(0, 1))))

    def test_the_stretches_of_nothing_and_of_a_row(self):
        one, other = look(way="at", within=0), look(way="since", within=0)
        nothing = cases(
            FINE,
            beside(1, 0, ring(2, 0), ring(2, 1)))
        found = cases(
            beside(1, 1, ring(2, 1), ring(2, 0)),
            both(4),
            cases(ring(4, 3, 1), ring(4, 0, 2)))
        self.accepts(one, other, cases(nothing, found))
        self.rejects(one, other, cases(found, nothing), cases(nothing, nothing), cases(found, found),
                     cases(nothing, cases(*reversed(found[1]))), cases(cases(*reversed(nothing[1])), found))

    def test_a_missing_end_has_no_paper(self):
        # Without a limit, nothing is found from some moment back: the row is behind this stretch.
        one, other = look(), look("a", Now() + 1, "before")
        thing = paper(one, other)
        self.assertEqual(thing[1][0], cases(FINE, beside(1, 0, ring(1, 0))))
        self.accepts(one, other, thing)
        for wrong in [beside(1, 0), beside(1, 0, ring(1, 0), ring(1, 0)), beside(1, 0, ring(0, 1), FINE)]:
            self.rejects(one, other, cases(cases(FINE, wrong), thing[1][1]))
        one, other = look(way="since"), look("a", Now() - 1, "after")
        thing = paper(one, other)
        self.assertEqual(thing[1][0], cases(FINE, beside(1, 0, ring(1, 0))))
        self.accepts(one, other, thing)

    def test_the_stretches_of_all_ways(self):
        # Alike pairs whose one look has the very stretch that the other one's row must not lie in.
        for within in (None, 0, 1, 3):
            for one, other in [
                    (look("a", Now() + 2, "at", within), look("a", Now() + 3, "before", None if within is None else
                                                              within + 1)),
                    (look("a", Now() + 2, "since", within), look("a", Now() + 1, "after", None if within is None else
                                                                 within + 1))]:
                for first, second in [(one, other), (other, one)]:
                    self.accepts(first, second, paper(first, second))
                    self.accepts_cover(first, second, cover_paper(first, second))

    def test_rows_of_the_same_stream_in_their_order(self):
        # First no row, then the rows 1 and 2, then a new row 3.
        term = look("a", look("a", look("a", Now(), "at", 0), "at", 0), "at", 0)
        wanted = look("a", Now(), "at", 0)
        thing = paper(term, wanted)
        self.accepts(term, wanted, thing)
        first = thing[1][1]
        self.assertEqual([len(thing[1]), len(first[1])], [2, 3])
        self.assertEqual(len(first[1][2][1]), 4)

    def test_rows_of_another_stream_are_no_cases(self):
        one = look("b", look("a", Now(), "at", 0), "at", 0)
        self.accepts_cover(Now(), one, cases(FINE, cases(FINE, FINE)))
        self.rejects_cover(Now(), one, cases(FINE, cases(FINE, FINE, FINE)))
        one = look("a", look("b", look("a", Now(), "at", 0), "at", 0), "at", 0)
        self.accepts_cover(Now(), one, cases(FINE, cases(FINE, cases(FINE, FINE, FINE))))

    def test_a_look_at_nothing_leaves_no_choice(self):
        one = look("b", look())
        self.accepts_cover(Now(), one, cases(FINE, cases(FINE, FINE)))
        self.rejects_cover(Now(), one, cases(cases(FINE, FINE), cases(FINE, FINE)), FINE)


class Questions(PaperTest):
    """The orders and the ends of the questions (point 28)."""

    def test_alike_goes_through_one_first(self):
        # One's two cases for stream a, then other's two cases for stream b, and never the other way around.
        one, other = NEVER, look("b", NEVER)
        self.accepts(one, other, cases(cases(FINE, ring(0, 1)), ring(0, 1)))
        self.accepts(one, other, cases(cases(FINE, cases(FINE, ring(1, 0))), ring(0, 1)))
        self.rejects(one, other, cases(FINE, ring(0, 1)), ring(0, 1))
        self.accepts(other, one, cases(cases(FINE, ring(0, 1)), ring(1, 0)))
        self.rejects(other, one, cases(cases(FINE, cases(FINE, ring(1, 0))), ring(0, 1)))

    def test_both_are_nothing(self):
        self.accepts(NEVER, NEVER, cases(cases(FINE, ring(0, 1)), ring(0, 1)))
        self.rejects(NEVER, NEVER, cases(cases(ring(0, 1), ring(0, 1)), ring(0, 1)))

    def test_covers_goes_through_other_first(self):
        self.accepts_cover(look("b"), NEVER, cases(FINE, ring(0, 1)))
        self.accepts_cover(look("b"), NEVER, cases(FINE, cases(ring(0, 1), FINE)))
        self.accepts_cover(look("b"), NEVER, cases(FINE, cases(ring(0, 1), ring(0, 1))))
        self.rejects_cover(look("b"), NEVER, cases(FINE, cases(FINE, FINE)), cases(cases(FINE, FINE), ring(0, 1)))

    def test_covers_without_choices(self):
        self.accepts_cover(Now(), Now(), FINE)
        self.accepts_cover(Now() + 1, Now() - 1, FINE)
        self.rejects_cover(Now(), Now(), ring(0), cases(), cases(FINE), cases(FINE, FINE), both(0))

    def test_covers_has_fine_where_one_has_an_answer(self):
        self.accepts_cover(Now(), look(), cases(FINE, FINE))
        self.rejects_cover(Now(), look(), FINE, cases(FINE, ring(0)), cases(FINE, beside(1, 0, ring(0), ring(0))))
        one, other = look("a", within=1), look("a", within=0)
        self.accepts_cover(one, other, cases(FINE, cases(
            beside(1, 1, ring(2, 1), ring(2, 0)), FINE, FINE)))

    def test_exactly_one_is_nothing(self):
        self.accepts(AT, AT, cases(NOTHING, FOUND))
        self.rejects(AT, AT, cases(cases(FINE, FINE), FOUND), cases(NOTHING, cases(FINE, *ENDS[1:])))


class Places(PaperTest):
    """What may stand where (points 29 and 30)."""

    # Nothing at now, then since now a row at now: a case that only a "beside" paper would close.
    ODD = look("a", look(within=0) | Now(), "since", 0)

    def test_a_ring_in_the_place_of_a_choice(self):
        term = look("b", NEVER)
        self.accepts_cover(Now(), term, cases(FINE, ring(0, 1)))
        self.accepts_cover(Now(), term, cases(FINE, cases(FINE, FINE)))
        self.accepts_cover(Now(), term, cases(FINE, cases(ring(0, 1), ring(0, 1))))

    def test_a_ring_has_only_facts_of_its_place(self):
        # The third fact is added behind the choice of the second look.
        term = look("b", NEVER, within=1)
        self.accepts_cover(Now(), term, cases(FINE, cases(FINE, ring(1, 0))))
        self.rejects_cover(Now(), term, cases(FINE, ring(2, 3)), cases(FINE, ring(0)), cases(ring(0, 1), FINE))

    def test_a_ring_in_the_place_of_fine(self):
        self.accepts_cover(Now(), NEVER, cases(FINE, FINE))
        self.accepts_cover(Now(), NEVER, cases(FINE, ring(0, 1)))
        self.rejects_cover(Now(), NEVER, cases(ring(0, 1), FINE))

    def test_no_beside_in_the_place_of_fine(self):
        closing = beside(1, 0, ring(2, 0), ring(2, 1))
        rest = cases(FINE, FINE, FINE)
        self.accepts_cover(Now(), self.ODD, cases(cases(FINE, FINE), rest))
        self.rejects_cover(Now(), self.ODD, cases(cases(FINE, closing), rest), cases(cases(closing, FINE), rest))
        # The same facts, rows and stretches where one has no answer.
        rest = cover_paper(AT, self.ODD)[1][1]
        self.accepts_cover(AT, self.ODD, cases(cases(FINE, cases(closing, FINE, FINE)), rest))
        self.rejects_cover(AT, self.ODD, cases(cases(FINE, cases(closing, closing, FINE)), rest),
                           cases(cases(FINE, cases(closing, FINE, closing)), rest),
                           cases(cases(FINE, cases(FINE, FINE, FINE)), rest), cases(cases(FINE, closing), rest))

    def test_no_beside_and_no_fine_in_the_place_of_a_choice(self):
        for wrong in [FINE, beside(1, 0, ring(0), ring(0)), beside(1, 0, ring(2, 1), ring(2, 0)), ENDS[0]]:
            self.rejects(AT, AT, wrong, cases(NOTHING, wrong), cases(wrong, FOUND),
                         cases(NOTHING, cases(ENDS[0], wrong, ENDS[2])))

    def test_no_cases_at_an_end(self):
        for wrong in [cases(ring(0), ring(0)), both(2), cases(ENDS[0]), cases(*ENDS[0][3]), cases()]:
            self.rejects(AT, AT, cases(NOTHING, cases(wrong, *ENDS[1:])), cases(cases(FINE, wrong), FOUND))
        self.rejects(AT, AT, cases(NOTHING, cases(ENDS[0], cases(both(4), both(4)), ENDS[2])),
                     cases(cases(cases(), NOTHING[1][1]), FOUND))

    def test_no_fine_and_no_cases_within_beside(self):
        for wrong in [FINE, cases(ring(2, 1)), both(2), cases(), ()]:
            self.rejects(AT, AT, cases(cases(FINE, beside(1, 0, wrong, ring(2, 0))), FOUND),
                         cases(cases(FINE, beside(1, 0, ring(2, 1), wrong)), FOUND))

    def test_beside_within_beside(self):
        # Ahead of stretch 0, from 1 + 1 on, lies row 1 by the fact (1, 1, 0); behind it by (0, 1, -1).
        inner = beside(1, 1, ring(3, 1), ring(3, 0))
        for closing in [beside(1, 0, inner, ring(2, 0)), beside(1, 0, inner, inner),
                        beside(1, 1, beside(1, 0, ring(2, 1), ring(3, 0)), ring(2, 0)),
                        beside(1, 1, ring(2, 1), beside(1, 0, ring(2, 0), ring(3, 0)))]:
            self.accepts(AT, AT, cases(NOTHING, cases(closing, *ENDS[1:])))
        for closing in [beside(1, 0, ring(2, 1), ring(2, 0)), beside(1, 0, ring(2), ring(2, 0)),
                        beside(1, 0, beside(1, 1, ring(2, 1), ring(3, 0)), ring(2, 0))]:
            self.rejects(AT, AT, cases(NOTHING, cases(closing, *ENDS[1:])))

    def test_a_pair_once_on_the_way(self):
        once = beside(1, 0, ring(3, 1), ring(3, 0))
        again = beside(1, 1, ring(3, 1), ring(3, 0))
        third = beside(1, 1, ring(4, 1), ring(4, 0))
        for closing in [beside(1, 1, again, again), beside(1, 1, ring(2, 1), again), beside(1, 1, again, ring(2, 0)),
                        beside(1, 1, ENDS[0], ENDS[0]), beside(1, 0, beside(1, 0, again, again), ring(2, 0)),
                        beside(1, 1, beside(1, 0, third, ring(3, 0)), ring(2, 0))]:
            self.rejects(AT, AT, cases(NOTHING, cases(closing, *ENDS[1:])))
        # The same for another number of the stretch; without this rule both would be papers.
        for closing in [beside(1, 0, once, ring(2, 0)), beside(1, 0, ring(2, 1), once)]:
            self.rejects(AT, AT, cases(cases(FINE, closing), FOUND))
        # The same pair on both sides is no matter, and neither is the other pair.
        self.accepts(AT, AT, cases(NOTHING, cases(beside(1, 0, again, again), *ENDS[1:])))
        self.rejects(AT, AT, cases(NOTHING, cases(beside(1, 0, once, once), *ENDS[1:])))

    def test_a_row_and_a_stretch(self):
        for row, stretch in [(0, 0), (2, 0), (1, 2), (-1, 0), (1, -1), (1, -2), (0, 1), (BIG, 0), (1, BIG), (2, 1)]:
            closing = beside(row, stretch, ring(2, 1), ring(2, 0))
            self.rejects(AT, AT, cases(cases(FINE, closing), FOUND), cases(NOTHING, cases(closing, *ENDS[1:])))

    def test_rows_and_stretches_of_other_streams(self):
        # The stretches 0 and 2 are of b, stretch 1 is of a, all from now to now; row 1 is of a and equal to now.
        one, other = look("b", within=0) | AT, look("b", within=0) | look(way="since", within=0)
        thing = paper(one, other)
        self.accepts(one, other, thing)
        for stretch in range(4):
            closing = cases(FINE, beside(1, stretch, ring(2, 0), ring(2, 1)))
            made = with_paper(thing, (0, 0, 0), closing)
            self.same(is_paper(one, other, made), stretch == 1)
            self.assertEqual(judge(alike_end, one, other, made), stretch == 1)

    def test_numbers_are_integers(self):
        for wrong in NO_INTEGERS:
            for closing in [beside(wrong, 0, ring(2, 1), ring(2, 0)), beside(1, wrong, ring(2, 1), ring(2, 0)),
                            beside(1, 0, ring(2, wrong), ring(2, 0)), beside(1, 0, ring(2, 1), ring(2, wrong))]:
                self.same(is_paper(AT, AT, cases(cases(FINE, closing), FOUND)), False)
            self.same(is_paper(Now(), Now(), cases(ring(wrong), ring(0))), False)


class Judging(PaperTest):

    def test_anything_else_is_no_paper(self):
        for thing in NO_PAPERS:
            for first, second in [(AT, AT), (Now(), Now()), (Now(), Now() + 1), (AT, look("b"))]:
                self.same(is_paper(first, second, thing), False)
                self.same(is_cover_paper(first, second, thing), False)
            self.same(is_paper(Now(), Now(), cases(thing, ring(0))), False)
            self.same(is_paper(Now(), Now(), cases(ring(0), thing)), False)
            self.same(is_paper(Now(), Now(), ("cases", thing)), False)
            self.same(is_paper(Now(), Now(), cases(ring(0), ("ring", [thing]))), False)
            self.same(is_paper(Now(), Now(), cases(ring(0), ring(thing))), thing.__class__ is int and thing == 0)
            self.same(is_cover_paper(Now(), look(), cases(FINE, thing)), False)

    def test_lists_and_bytes_do_not_count(self):
        thing = cases(ring(0), ring(0))
        self.assertTrue(is_paper(Now(), Now(), thing))
        for wrong in [["cases", thing[1]], ("cases", list(thing[1])), (b"cases", thing[1]), ("cases", thing[1], ()),
                      cases(["ring", (0,)], ring(0)), cases(("ring", [0]), ring(0)), cases((b"ring", (0,)), ring(0)),
                      cases({"ring": (0,)}, ring(0)), ("Cases", thing[1]), ("case", thing[1]), {"cases": thing[1]},
                      cases(ring(0), ("ring", range(1))), cases(ring(0), ("ring", {0})), cases(ring(0), ("ring", 0))]:
            self.same(is_paper(Now(), Now(), wrong), False)

    def test_however_deep_and_large(self):
        deep = ring(0)
        chain = FINE
        for _ in range(100000):
            deep = beside(1, 1, deep, deep)
            chain = cases(chain, chain)
        for thing in [deep, chain, nested_tuple(100000), nested_list(100000), ("ring", nested_tuple(100000))]:
            self.same(is_paper(AT, AT, thing), False)
            self.same(is_paper(AT, AT, cases(NOTHING, cases(thing, *ENDS[1:]))), False)
            self.same(is_paper(AT, AT, cases(NOTHING, cases(beside(1, 1, ring(2, 1), thing), *ENDS[1:]))), False)
            self.same(is_cover_paper(AT, AT, thing), False)
        self.same(is_paper(Now(), Now(), cases(ring(*[0] * 100000), ring(0))), True)
        self.same(is_paper(Now(), Now(), cases(ring(*[0] * 100000, 1), ring(0))), False)
        self.same(is_paper(Now(), Now(), cases(*[ring(0)] * 100000)), False)
        self.same(is_paper(AT, AT, cases(NOTHING, cases(beside(1, 1, *[ring(2, 1)] * 100000), *ENDS[1:]))), False)

    def test_papers_for_many_terms(self):
        """Each paper that is returned is one, also with the other judge, and so is each changed one that it takes."""
        source = random.Random(51)
        found = {True: 0, False: 0}
        for turn in range(400):
            one, other = near_pair(source)
            if turn % 2 and alike(one, other):
                thing, end, judged = paper(one, other), alike_end, is_paper
            elif covers(one, other):
                thing, end, judged = cover_paper(one, other), covers_end, is_cover_paper
            else:
                continue
            self.same(judged(one, other, thing), True)
            self.assertTrue(judge(end, one, other, thing))
            wrong = list(changed(thing))
            for other_thing in source.sample(wrong, min(len(wrong), 120)):
                wanted = judge(end, one, other, other_thing)
                found[wanted] += 1
                self.same(judged(one, other, other_thing), wanted)
        self.assertGreater(found[False], 10000)
        self.assertGreater(found[True], 50)

    def test_papers_of_other_terms(self):
        source = random.Random(52)
        pairs = [near_pair(source) for _ in range(300)]
        papers = [paper(one, other) for one, other in pairs if alike(one, other)]
        papers += [cover_paper(one, other) for one, other in pairs if covers(one, other)]
        found = {True: 0, False: 0}
        for one, other in pairs:
            for thing in source.sample(papers, 30):
                for judged, end, question in [(is_paper, alike_end, alike), (is_cover_paper, covers_end, covers)]:
                    wanted = judge(end, one, other, thing)
                    found[wanted] += 1
                    self.same(judged(one, other, thing), wanted)
                    if wanted:
                        self.assertTrue(question(one, other))
        self.assertGreater(found[True], 100)

    def test_no_paper(self):
        self.raises(Unlike, paper, Now(), Now() + 1)
        self.raises(Unlike, paper, look(), look("b"))
        self.raises(NotCovered, cover_paper, look(), Now())
        self.raises(NotCovered, cover_paper, look(), look("b"))

    def test_the_kinds_in_a_paper(self):
        source = random.Random(53)
        for _ in range(100):
            one, other = near_pair(source)
            if alike(one, other):
                thing = paper(one, other)
                self.assertEqual(thing, paper(one, other))
                self.check_kinds(thing)

    def check_kinds(self, thing):
        self.assertIn(thing.__class__, (tuple, str, int))
        if isinstance(thing, tuple):
            for entry in thing:
                self.check_kinds(entry)


def near_pair(source):
    """Two terms within the limits that are often alike."""
    while True:
        one = random_term(source, source.randint(1, 4), "ab", 2)
        other = source.choice([one, one | one, one.later(one), one.earlier(one), one | look(),
                               random_term(source, source.randint(1, 4), "ab", 2)])
        if one.looks + other.looks <= 4 and one.choices + other.choices <= 6:
            return one, other


if __name__ == "__main__":
    unittest.main()
