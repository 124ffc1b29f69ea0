"""Points 2, 22 and the interface over the whole program."""

import copy
import importlib
import inspect
import random
import unittest

from pastlooks.facts import bound, is_ring, ring, solution
from pastlooks.leads import age, is_lead_paper, lead, lead_paper, reaching
from pastlooks.leaner import lean, leaner
from pastlooks.pieces import answers, changes, differences, pieces
from pastlooks.terms import Now, told
from pastlooks.texts import parse, spelled
from pastlooks.verdicts import (
    alike, cover_paper, covers, gap, is_cover_paper, is_paper, is_parting, paper, parting)
from pastlooks.waits import is_unsettled, is_wait_paper, least_wait, may_know, unsettled, wait_paper
from pastlooks.worlds import World
from support import BIG, PastTest, look, random_term, random_world

INTERFACE = {
    "terms": {"told": "term world now"},
    "pieces": {"pieces": "term world", "differences": "term world other", "changes": "term world name moment",
               "answers": "term world moments"},
    "facts": {"ring": "count facts", "is_ring": "facts thing", "solution": "count facts", "bound": "count facts a b"},
    "verdicts": {"alike": "one other", "parting": "one other", "is_parting": "one other thing", "paper": "one other",
                 "is_paper": "one other thing", "covers": "one other", "gap": "one other",
                 "cover_paper": "one other", "is_cover_paper": "one other thing"},
    "leads": {"lead": "one other", "reaching": "one other n", "age": "term", "lead_paper": "one other n",
              "is_lead_paper": "one other n thing"},
    "waits": {"may_know": "world lateness moment known", "least_wait": "term lateness",
              "unsettled": "term lateness wait", "is_unsettled": "term lateness wait thing",
              "wait_paper": "term lateness wait", "is_wait_paper": "term lateness wait thing"},
    "leaner": {"leaner": "term", "lean": "term"},
    "texts": {"spelled": "term", "parse": "text"}}


def calls(source):
    """Calls of all functions of the interface: pairs of a function and a list of arguments."""
    one, other = look("a", Now() + source.randint(-2, 2)), look("b") | Now()
    term = random_term(source, 3, "ab", 2)
    while term.looks > 2 or term.choices > 3:
        term = random_term(source, 3, "ab", 2)
    world, known = random_world(source, 4, 5), random_world(source, 2, 5)
    lateness = {"b": source.randint(0, 3), "a": source.randint(0, 3), "z": [1], 5: None}
    facts = [(0, 1, source.randint(-1, 2)), (1, 0, source.randint(-2, 1)), (1, 2, 5)]
    thing = ("cases", (("fine",), ("ring", (1, 2))))
    late = (world | known, known, 0, 3)
    return [
        (told, [term, world, 3]), (pieces, [term, world]), (differences, [term, world, known]),
        (changes, [term, world, "a", 1]), (answers, [term, world, [3, 1, 2]]), (ring, [3, facts]),
        (is_ring, [facts, (0, 1)]), (solution, [3, facts]), (bound, [3, facts, 0, 2]), (alike, [one, other]),
        (parting, [one, other]), (is_parting, [one, other, (world, 3)]), (paper, [term, term]),
        (is_paper, [one, other, thing]), (covers, [one, other]), (gap, [one, other]), (cover_paper, [other, one]),
        (is_cover_paper, [Now(), term, thing]), (lead, [one, other]), (reaching, [one, other, 2]), (age, [term]),
        (lead_paper, [one, Now(), 5]), (is_lead_paper, [Now(), look(within=5), 5, thing]),
        (may_know, [world, lateness, 3, known]), (least_wait, [term, lateness]), (unsettled, [term, lateness, 1]),
        (is_unsettled, [term, lateness, 0, late]), (wait_paper, [look(), lateness, 3]),
        (is_wait_paper, [term, lateness, 3, thing]), (leaner, [term]), (lean, [term]), (spelled, [term]),
        (parse, [spelled(term)])]


def result(deed, given):
    found = deed(*given)
    return list(found) if deed == answers else found


class Whole(PastTest):

    def test_each_function_is_defined_in_its_file(self):
        for name in INTERFACE:
            module = importlib.import_module("pastlooks." + name)
            for function in INTERFACE[name]:
                deed = getattr(module, function)
                self.assertTrue(inspect.isfunction(deed))
                self.assertEqual(deed.__module__, "pastlooks." + name)
                self.assertEqual(" ".join(inspect.getfullargspec(deed).args), INTERFACE[name][function])
                self.assertIsNone(inspect.getfullargspec(deed).defaults)

    def test_all_functions_are_called_here(self):
        named = {function for name in INTERFACE for function in INTERFACE[name]}
        self.assertEqual({deed.__name__ for deed, given in calls(random.Random(1))}, named)

    def test_the_arguments_stay_as_they_are(self):
        source = random.Random(111)
        for _ in range(40):
            for deed, given in calls(source):
                before = copy.deepcopy(given)
                result(deed, given)
                self.assertEqual(given, before)
                for one, other in zip(given, before):
                    if isinstance(one, dict):
                        self.assertEqual(list(one), list(other))

    def test_the_same_call_gives_the_same_answer(self):
        source = random.Random(112)
        for _ in range(40):
            for deed, given in calls(source):
                found = result(deed, copy.deepcopy(given))
                self.same(result(deed, given), found)
                self.same(result(deed, given), found)

    def test_each_list_is_a_new_list(self):
        source = random.Random(113)
        found = 0
        for _ in range(20):
            for deed, given in calls(source):
                first = result(deed, given)
                if isinstance(first, list) and first:
                    wanted = list(first)
                    first.clear()
                    first.append("other")
                    found += 1
                    self.same(result(deed, given), wanted)
        self.assertGreater(found, 60)

    def test_worlds_that_are_returned_are_new(self):
        one, other = look(), look("b")
        for deed, given in [(parting, [one, other]), (gap, [one, other]), (reaching, [Now(), one, 3]),
                            (unsettled, [one, {"a": 3}, 1])]:
            first = deed(*given)
            wanted = [part.copy() if isinstance(part, World) else part for part in first]
            for part in first:
                if isinstance(part, World):
                    part["a"] = [7, 8, 9]
                    part["q"] = [1]
            self.assertEqual(list(deed(*given)), wanted)

    def test_integers_of_any_size(self):
        term = look("a", Now() + BIG, "at", BIG)
        self.assertTrue(alike(term, look("a", Now() + BIG + 1, "before", BIG + 1)))
        self.assertEqual(lead(Now(), term), ("most", 0))
        self.assertEqual(lead(term, Now()), ("most", BIG))
        self.assertEqual(least_wait(term, {"a": BIG}), 2 * BIG)
        self.assertEqual(leaner(term | term), [((), 0), ((), 1)])
        self.assertTrue(is_wait_paper(term, {"a": BIG}, 2 * BIG, wait_paper(term, {"a": BIG}, 2 * BIG)))
        world, known, now, moment = unsettled(term, {"a": BIG}, 2 * BIG - 1)
        self.assertTrue(may_know(world, {"a": BIG}, moment, known))


if __name__ == "__main__":
    unittest.main()
