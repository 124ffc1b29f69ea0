"""Points 25 to 30: papers for the question most n."""

import random
import unittest

from judge import FINE, beside, cases, changed, judge, most_end, ring
from pastlooks.errors import NotMost
from pastlooks.leads import is_lead_paper, lead, lead_paper
from pastlooks.terms import Now
from pastlooks.verdicts import cover_paper, covers, is_cover_paper
from support import BIG, NO_INTEGERS, NO_PAPERS, PastTest, look, nested_tuple, random_pair

NEVER = look(way="before", within=0)
AT = look(within=0)


class PaperTest(PastTest):

    def accepts(self, one, other, n, *things):
        for thing in things:
            self.same(is_lead_paper(one, other, n, thing), True)
            self.assertTrue(judge(most_end(n), one, other, thing))
            for wrong in changed(thing):
                self.same(is_lead_paper(one, other, n, wrong), judge(most_end(n), one, other, wrong))

    def rejects(self, one, other, n, *things):
        for thing in things:
            self.same(is_lead_paper(one, other, n, thing), False)
            self.assertFalse(judge(most_end(n), one, other, thing))


class Facts(PaperTest):

    def test_without_choices(self):
        # (0, 0, -1), and with a larger n a smaller number.
        self.accepts(Now(), Now(), 0, ring(0), ring(0, 0))
        self.accepts(Now(), Now(), 7, ring(0))
        self.accepts(Now() + 3, Now() - 4, 7, ring(0))
        self.accepts(Now() + BIG, Now(), BIG, ring(0))
        self.rejects(Now(), Now(), -1, ring(0), FINE)
        self.rejects(Now() + 3, Now() - 4, 6, ring(0), FINE)
        self.rejects(Now(), Now(), 0, FINE, ring(), ring(1), cases(), cases(ring(0)), cases(ring(0), ring(0)),
                     beside(0, 0, ring(0), ring(0)), ())

    def test_the_example(self):
        self.accepts(Now(), look(within=5), 5, cases(FINE, ring(1, 2)), cases(FINE, ring(2, 1)))
        self.rejects(Now(), look(within=5), 4, cases(FINE, ring(1, 2)))
        self.accepts(Now(), look(within=5), 6, cases(FINE, ring(1, 2)))

    def test_the_direction_of_the_fact(self):
        # Row 1 is at now by the facts 0 and 1, of which each leads one way.
        self.accepts(AT, Now(), 0, cases(FINE, ring(2, 0)))
        self.rejects(AT, Now(), 0, cases(FINE, ring(2, 1)))
        self.accepts(Now(), AT, 0, cases(FINE, ring(2, 1)))
        self.rejects(Now(), AT, 0, cases(FINE, ring(2, 0)))

    def test_the_number_of_the_fact(self):
        # The choice of later adds (0, 0, 3); how often the last fact is needed beside it shows its number.
        one = (Now() + 3).later(Now())
        for n, count in [(3, 4), (4, 2), (5, 2), (6, 1)]:
            self.accepts(one, Now(), n, cases(ring(0, *[1] * count), ring(0)))
            if count > 1:
                self.rejects(one, Now(), n, cases(ring(0, *[1] * (count - 1)), ring(0)))
        self.rejects(one, Now(), 2, cases(ring(1), ring(0)))
        # The shifts of both answers count.
        self.accepts(one + 1, Now() - 2, 6, cases(ring(0, 1, 1, 1, 1), ring(0)))
        self.rejects(one + 1, Now() - 2, 6, cases(ring(0, 1, 1, 1), ring(0)))

    def test_one_is_gone_through_first(self):
        # One's row of b is 1, with the fact 0; other's row of a is 2, with the facts 1 and 2.
        self.accepts(look("b"), NEVER, 0, cases(FINE, cases(FINE, ring(1, 2))))
        self.rejects(look("b"), NEVER, 0, cases(FINE, ring(0, 1)), cases(FINE, cases(FINE, ring(0, 1))))
        self.accepts(NEVER, look("b"), 0, cases(FINE, ring(0, 1)), cases(FINE, cases(FINE, ring(0, 1))),
                     cases(FINE, cases(ring(0, 1), ring(1, 0))))

    def test_nothing_is_left_to_show_if_one_of_both_is_nothing(self):
        self.accepts(look(within=3), Now(), 0, cases(FINE, ring(2, 0)))
        self.accepts(Now(), look(within=3), 3, cases(FINE, ring(1, 2)))
        # If one is nothing, other is not gone through.
        self.rejects(NEVER, look("b"), 0, cases(cases(FINE, FINE), ring(0, 1)))
        self.rejects(Now(), look(within=3), 3, cases(ring(0), ring(1, 2)), cases(beside(1, 0), ring(1, 2)))
        self.rejects(Now(), look(within=3), 3, cases(FINE, FINE), FINE)

    def test_the_last_fact_stands_at_the_end_only(self):
        # In the place of other's choice there are one's facts alone.
        one = look("b", within=0)
        other = AT
        self.accepts(one, other, 0, cases(FINE, cases(FINE, ring(0, 3, 4))))
        self.rejects(one, other, 0, cases(FINE, ring(0, 3, 4)), cases(FINE, cases(FINE, ring(0, 3))),
                     cases(ring(4, 0), cases(FINE, ring(0, 3, 4))))

    def test_beside_with_the_last_fact(self):
        # The row 2 behind the row 1 ahead of now is not ahead of now: it does not lie in stretch 0, 1 + 1 to 0 - 1.
        other = look("a", look(way="before"), "after")
        closing = beside(2, 0, ring(1, 3), ring(2, 3))
        self.accepts(Now(), other, 0, cases(FINE, cases(FINE, ring(1), closing)))
        self.rejects(Now(), other, -1, cases(FINE, cases(FINE, ring(1), closing)))
        self.rejects(Now(), other, 0, cases(FINE, cases(FINE, closing, closing)), cases(FINE, closing),
                     cases(FINE, cases(closing, ring(1), closing)), cases(closing, cases(FINE, ring(1), closing)),
                     cases(FINE, cases(FINE, ring(1), FINE)), cases(FINE, cases(FINE, FINE, closing)),
                     cases(FINE, cases(FINE, ring(1), beside(2, 0, ring(1, 3), FINE))),
                     cases(FINE, cases(FINE, ring(1), beside(2, 1, ring(1, 3), ring(2, 3)))),
                     cases(FINE, cases(FINE, ring(1), beside(2, 0, closing, closing))),
                     cases(FINE, cases(FINE, ring(1), cases(ring(1, 3), ring(2, 3)))))

    def test_numbers_are_integers(self):
        for wrong in NO_INTEGERS:
            self.same(is_lead_paper(Now(), Now(), 0, ring(wrong)), False)
            self.same(is_lead_paper(Now(), look(within=5), 5, cases(FINE, ring(wrong, 2))), False)
            self.same(is_lead_paper(Now(), look(within=5), 5, cases(FINE, ring(1, wrong))), False)


class Judging(PaperTest):

    def test_anything_else_is_no_paper(self):
        for thing in NO_PAPERS:
            for one, other, n in [(Now(), Now() + 1, 0), (Now(), look(within=5), 5), (AT, look("b"), 0)]:
                self.same(is_lead_paper(one, other, n, thing), False)
            self.same(is_lead_paper(Now(), look(within=5), 5, cases(FINE, thing)), False)
            self.same(is_lead_paper(Now(), look(within=5), 5, cases(thing, ring(1, 2))), False)
            self.same(is_lead_paper(Now(), look(within=5), 5, ("cases", thing)), False)

    def test_however_deep_and_large(self):
        deep = ring(0)
        for _ in range(100000):
            deep = beside(1, 0, deep, deep)
        for thing in [deep, nested_tuple(100000)]:
            self.same(is_lead_paper(Now(), look(within=5), 5, thing), False)
            self.same(is_lead_paper(Now(), look(within=5), 5, cases(FINE, thing)), False)
        self.same(is_lead_paper(Now(), Now(), 0, ring(*[0] * 100000)), True)
        self.same(is_lead_paper(Now(), Now(), 0, ring(*[0] * 100000, 1)), False)

    def test_papers_for_many_terms(self):
        source = random.Random(71)
        found = {True: 0, False: 0}
        papers = 0
        while papers < 250:
            one, other = random_pair(source, 4)
            word, n = lead(one, other)
            if word == "endless":
                continue
            papers += 1
            n = (0 if n is None else n) + source.choice([0, 0, 1, 9])
            thing = lead_paper(one, other, n)
            self.same(is_lead_paper(one, other, n, thing), True)
            self.assertTrue(judge(most_end(n), one, other, thing))
            wrong = list(changed(thing))
            for other_thing in source.sample(wrong, min(len(wrong), 120)):
                wanted = judge(most_end(n), one, other, other_thing)
                found[wanted] += 1
                self.same(is_lead_paper(one, other, n, other_thing), wanted)
            if word == "most":
                self.same(is_lead_paper(one, other, n + 1, thing), True)
                for less in range(n, lead(one, other)[1] - 3, -1):
                    self.same(is_lead_paper(one, other, less, thing), judge(most_end(less), one, other, thing))
                self.same(is_lead_paper(one, other, lead(one, other)[1] - 1, thing), False)
        self.assertGreater(found[False], 8000)
        self.assertGreater(found[True], 50)

    def test_papers_of_other_terms(self):
        source = random.Random(72)
        pairs = [random_pair(source, 3) for _ in range(200)]
        papers = []
        for one, other in pairs:
            word, n = lead(one, other)
            if word != "endless":
                papers.append(lead_paper(one, other, n or 0))
            if covers(one, other):
                papers.append(cover_paper(one, other))
        found = {True: 0, False: 0}
        for one, other in pairs:
            for thing in source.sample(papers, 30):
                n = source.randint(-2, 4)
                wanted = judge(most_end(n), one, other, thing)
                found[wanted] += 1
                self.same(is_lead_paper(one, other, n, thing), wanted)
                if wanted:
                    self.assertIs(is_lead_paper(one, other, n, lead_paper(one, other, n)), True)
        self.assertGreater(found[True], 50)

    def test_a_paper_for_another_question(self):
        thing = cover_paper(Now(), AT)
        self.assertTrue(is_cover_paper(Now(), AT, thing))
        self.rejects(Now(), AT, 0, thing)

    def test_no_paper(self):
        self.raises(NotMost, lead_paper, Now(), Now(), -1)
        self.raises(NotMost, lead_paper, Now(), look(within=5), 4)
        self.raises(NotMost, lead_paper, look(way="since"), Now(), 10 ** 9)
        self.raises(NotMost, lead_paper, look(), look("b"), BIG)
        lead_paper(NEVER, Now(), -BIG)
        lead_paper(Now(), look(within=5), 5)

    def test_the_same_paper_again(self):
        source = random.Random(73)
        for _ in range(60):
            one, other = random_pair(source, 4)
            if lead(one, other)[0] == "most":
                n = lead(one, other)[1]
                self.same(lead_paper(one, other, n), lead_paper(one, other, n))


if __name__ == "__main__":
    unittest.main()
