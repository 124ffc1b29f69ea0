"""Points 2, 19 and 20: facts, rings, solutions and bounds."""

import itertools
import random
import unittest

from pastlooks.errors import BadFact
from pastlooks.facts import bound, is_ring, ring, solution
from support import BIG, NO_INTEGERS, NO_PAPERS, PastTest, nested_list, nested_tuple


def is_kept(values, facts):
    return all(values[a] <= values[b] + c for a, b, c in facts)


def is_truly_ring(facts, indexes):
    """Point 20 word by word, for a tuple of indexes."""
    chosen = [facts[index] for index in indexes]
    turned = chosen[1:] + chosen[:1]
    return bool(chosen) and all(fact[1] == follower[0] for fact, follower in zip(chosen, turned)) and sum(
        fact[2] for fact in chosen) < 0


def random_facts(source, count, most, spread):
    return [(source.randrange(count), source.randrange(count), source.randint(-spread, spread))
            for _ in range(source.randint(0, most))]


class Judging(PastTest):

    def test_a_ring(self):
        self.same(is_ring([(0, 1, 2), (1, 0, -3)], (1, 0)), True)
        self.same(is_ring([(0, 1, 2), (1, 0, -3)], (0, 1)), True)

    def test_the_sum_is_below_0(self):
        self.same(is_ring([(0, 1, 2), (1, 0, -2)], (1, 0)), False)
        self.same(is_ring([(0, 1, 2), (1, 0, -1)], (1, 0)), False)

    def test_each_fact_leads_to_the_next_one(self):
        facts = [(0, 1, -1), (1, 2, -1), (2, 0, -1), (2, 1, -5)]
        self.assertTrue(is_ring(facts, (0, 1, 2)))
        self.assertTrue(is_ring(facts, (1, 2, 0)))
        self.assertFalse(is_ring(facts, (0, 2, 1)))
        self.assertFalse(is_ring(facts, (0, 1)))
        self.assertFalse(is_ring(facts, (1, 2)))
        self.assertFalse(is_ring(facts, (0,)))
        self.assertFalse(is_ring(facts, (2, 2, 0)))
        self.assertTrue(is_ring(facts, (1, 3)))
        self.assertFalse(is_ring(facts, (3, 0)))

    def test_the_last_fact_leads_to_the_first_one(self):
        self.assertFalse(is_ring([(0, 1, -1), (1, 2, -1)], (0, 1)))
        self.assertFalse(is_ring([(1, 0, -3)], (0,)))

    def test_a_fact_from_a_variable_to_itself(self):
        self.assertTrue(is_ring([(3, 3, -1)], (0,)))
        self.assertFalse(is_ring([(3, 3, 0)], (0,)))
        self.assertTrue(is_ring([(3, 3, -1)], (0, 0, 0)))

    def test_an_index_may_occur_several_times(self):
        facts = [(0, 1, 3), (1, 0, -2), (1, 1, -1)]
        self.assertFalse(is_ring(facts, (0, 1)))
        self.assertFalse(is_ring(facts, (0, 2, 1)))
        self.assertTrue(is_ring(facts, (0, 2, 2, 1)))
        self.assertTrue(is_ring([(0, 1, 0), (1, 0, -1)], (0, 1) * 5000))
        self.assertFalse(is_ring([(0, 1, 1), (1, 0, -1)], (0, 1) * 5000))

    def test_an_empty_tuple_is_no_ring(self):
        self.same(is_ring([], ()), False)
        self.same(is_ring([(0, 0, -1)], ()), False)

    def test_indexes_are_those_of_the_list(self):
        facts = [(0, 0, -1), (0, 0, -1)]
        self.assertTrue(is_ring(facts, (1,)))
        for index in [2, -1, -2, BIG, -BIG]:
            self.same(is_ring(facts, (index,)), False)
            self.same(is_ring(facts, (0, index)), False)
            self.same(is_ring(facts, (index, 0)), False)
        self.assertFalse(is_ring([], (0,)))
        self.assertFalse(is_ring([], (-1,)))

    def test_indexes_are_integers(self):
        facts = [(0, 0, -1), (0, 0, -1)]
        for index in NO_INTEGERS:
            self.same(is_ring(facts, (index,)), False)
            self.same(is_ring(facts, (0, index)), False)

    def test_anything_else_is_no_ring(self):
        for thing in NO_PAPERS:
            self.same(is_ring([(0, 1, -1), (1, 0, -1)], thing), False)
            self.same(is_ring([], thing), False)
        facts = [(0, 0, -1), (0, 0, -1)]
        for thing in [[0], [0, 1], {0}, {0: 1}, 0, "0", b"\0", range(1), iter([0]), ((0,),), ([0],), (0, (1,))]:
            self.same(is_ring(facts, thing), False)

    def test_however_deep_and_large(self):
        facts = [(0, 0, -1)]
        self.same(is_ring(facts, nested_tuple(100000)), False)
        self.same(is_ring(facts, (nested_tuple(100000),)), False)
        self.same(is_ring(facts, (0, nested_list(100000))), False)
        self.same(is_ring(facts, (0,) * 300000), True)
        self.same(is_ring(facts, (0,) * 300000 + (1,)), False)

    def test_numbers_of_any_size(self):
        self.assertTrue(is_ring([(0, 1, BIG), (1, 0, -BIG - 1)], (0, 1)))
        self.assertFalse(is_ring([(0, 1, BIG), (1, 0, -BIG)], (0, 1)))

    def test_against_the_words(self):
        source = random.Random(11)
        rings = 0
        for _ in range(300):
            facts = random_facts(source, 3, 4, 2)
            for length in range(1, 4):
                for indexes in itertools.product(range(len(facts)), repeat=length):
                    wanted = is_truly_ring(facts, indexes)
                    rings += wanted
                    self.same(is_ring(facts, indexes), wanted)
        self.assertGreater(rings, 100)


class Deciding(PastTest):

    def check(self, count, facts):
        """Whether there are values; exactly one of both is returned, and it holds."""
        given = list(facts)
        found = ring(count, facts)
        values = solution(count, facts)
        self.assertEqual(facts, given)
        if found is None:
            self.assertIs(values.__class__, list)
            self.assertEqual([value.__class__ for value in values], [int] * count)
            self.assertTrue(is_kept(values, facts))
            return True
        self.assertIsNone(values)
        self.assertIs(found.__class__, tuple)
        self.assertEqual({index.__class__ for index in found}, {int})
        self.assertTrue(is_truly_ring(facts, found))
        self.assertTrue(is_ring(facts, found))
        return False

    def test_no_facts(self):
        for count in range(1, 13):
            self.assertIsNone(ring(count, []))
            self.assertTrue(self.check(count, []))

    def test_some_facts(self):
        self.assertTrue(self.check(2, [(0, 1, 2), (1, 0, -2)]))
        self.assertFalse(self.check(2, [(0, 1, 2), (1, 0, -3)]))
        self.assertTrue(self.check(4, [(0, 1, -1), (1, 2, -1), (2, 0, 2)]))
        self.assertFalse(self.check(4, [(3, 3, 0), (0, 1, -1), (1, 2, -1), (2, 0, 1)]))

    def test_a_fact_from_a_variable_to_itself(self):
        self.assertTrue(self.check(1, [(0, 0, 0)]))
        self.assertTrue(self.check(1, [(0, 0, 5)]))
        self.assertFalse(self.check(1, [(0, 0, -1)]))
        self.assertFalse(self.check(5, [(4, 4, -BIG)]))

    def test_the_same_fact_twice(self):
        self.assertTrue(self.check(2, [(0, 1, -1), (0, 1, -1), (1, 0, 1), (1, 0, 1)]))
        self.assertFalse(self.check(2, [(0, 1, -1), (0, 1, -1), (1, 0, 0), (1, 0, 0)]))

    def test_variables_without_a_chain_between_them(self):
        self.assertTrue(self.check(6, [(0, 1, -7), (1, 2, -7), (3, 4, -1)]))
        self.assertFalse(self.check(6, [(0, 1, -7), (1, 2, -7), (3, 4, -1), (4, 3, 0)]))

    def test_numbers_of_any_size(self):
        self.assertTrue(self.check(3, [(0, 1, -BIG), (1, 2, -BIG), (2, 0, 2 * BIG)]))
        self.assertFalse(self.check(3, [(0, 1, -BIG), (1, 2, -BIG), (2, 0, 2 * BIG - 1)]))

    def test_all_12_variables_and_60_facts(self):
        around = [(k, (k + 1) % 12, 1) for k in range(12)]
        back = [((k + 1) % 12, k, -1) for k in range(11)]
        more = [(k, (k + 5) % 12, 40) for k in range(12)] * 3
        self.assertTrue(self.check(12, (around + back + more)[:58]))
        self.assertFalse(self.check(12, (around + back + more)[:58] + [(0, 11, -12)]))
        self.assertFalse(self.check(12, [(11, 0, -12)] + (around + back + more)[:59]))

    def test_by_trying_values(self):
        source = random.Random(12)
        kinds = {True: 0, False: 0}
        for _ in range(1000):
            count = source.randint(1, 3)
            facts = random_facts(source, count, 5, 2)
            # Each variable is at most 2 * (count - 1) away from another one, if it needs to be near at all.
            tried = any(is_kept(values, facts) for values in itertools.product(range(5), repeat=count))
            found = self.check(count, facts)
            self.assertEqual(found, tried)
            kinds[found] += 1
        self.assertGreater(min(kinds.values()), 100)

    def test_many_at_random(self):
        source = random.Random(13)
        kinds = {True: 0, False: 0}
        for turn in range(600):
            count = source.randint(1, 12)
            hidden = [source.randint(-9, 9) for _ in range(count)]
            facts = random_facts(source, count, 60, 9)
            if turn % 2:
                facts = [(a, b, hidden[a] - hidden[b] + abs(c) // 3) for a, b, c in facts]
            kinds[self.check(count, facts)] += 1
        self.assertGreater(min(kinds.values()), 100)

    def test_the_same_call_gives_the_same_answer(self):
        facts = [(0, 1, -1), (1, 0, 0), (1, 2, -1), (2, 1, 0)]
        self.assertEqual(ring(3, facts), ring(3, list(facts)))
        self.assertEqual(solution(3, facts[::2]), solution(3, facts[::2]))

    def test_a_new_list(self):
        values = solution(2, [(0, 1, -1)])
        wanted = list(values)
        values.append(5)
        self.assertEqual(solution(2, [(0, 1, -1)]), wanted)


class Bounds(PastTest):

    def test_the_closest_chain(self):
        self.same(bound(3, [(0, 1, 2), (1, 2, 4)], 0, 2), 6)
        self.same(bound(3, [(0, 1, 2), (1, 2, 4), (0, 2, 5)], 0, 2), 5)
        self.same(bound(3, [(0, 1, 2), (1, 2, 4), (0, 2, 7)], 0, 2), 6)
        self.same(bound(3, [(0, 2, 7), (1, 2, 4), (0, 1, 2)], 0, 2), 6)
        self.same(bound(2, [(0, 1, 2), (0, 1, -2), (0, 1, 3)], 0, 1), -2)

    def test_no_chain(self):
        self.assertIsNone(bound(3, [(0, 1, 2), (1, 2, 4)], 2, 0))
        self.assertIsNone(bound(3, [(0, 1, 2), (1, 2, 4)], 1, 0))
        self.assertIsNone(bound(2, [], 0, 1))

    def test_a_equal_to_b(self):
        self.same(bound(1, [], 0, 0), 0)
        self.same(bound(3, [(0, 1, 2), (1, 0, -2), (2, 2, 5)], 0, 0), 0)
        self.same(bound(3, [(0, 1, 2), (1, 0, 3), (2, 2, 5)], 2, 2), 0)
        self.assertIsNone(bound(1, [(0, 0, -1)], 0, 0))
        self.assertIsNone(bound(3, [(0, 1, 0), (1, 0, -1)], 2, 2))

    def test_a_ring_anywhere(self):
        self.assertIsNone(bound(4, [(0, 1, 2), (2, 3, 0), (3, 2, -1)], 0, 1))
        self.assertIsNone(bound(4, [(2, 2, -1), (0, 1, 2)], 0, 1))
        self.same(bound(4, [(0, 1, 2), (2, 3, 1), (3, 2, -1)], 0, 1), 2)

    def test_numbers_of_any_size(self):
        self.same(bound(3, [(0, 1, BIG), (1, 2, BIG)], 0, 2), 2 * BIG)
        self.same(bound(3, [(0, 1, -BIG), (1, 2, 1)], 0, 2), 1 - BIG)

    def test_it_holds_and_nothing_less_does(self):
        source = random.Random(14)
        kinds = {True: 0, False: 0}
        for _ in range(300):
            count = source.randint(1, 7)
            facts = random_facts(source, count, 10, 4)
            values = solution(count, facts)
            for a in range(count):
                for b in range(count):
                    least = bound(count, facts, a, b)
                    if values is None:
                        self.assertIsNone(least)
                    elif least is None:
                        kinds[False] += 1
                        self.assertIsNotNone(solution(count, facts + [(b, a, -1000)]))
                    else:
                        kinds[True] += 1
                        self.assertLessEqual(values[a], values[b] + least)
                        self.assertIsNone(solution(count, facts + [(b, a, -least - 1)]))
                        self.assertIsNotNone(solution(count, facts + [(b, a, -least)]))
        self.assertGreater(min(kinds.values()), 500)

    def test_the_list_stays(self):
        facts = [(0, 1, 2), (1, 2, 4)]
        bound(3, facts, 0, 2)
        self.assertEqual(facts, [(0, 1, 2), (1, 2, 4)])


class WrongFacts(PastTest):

    WRONG = [None, 0, "", "abc", b"abc", [], [0, 1, 2], (), (0,), (0, 1), (0, 1, 2, 3), {0, 1, 2}, {}, ((0, 1, 2),),
             (-1, 0, 0), (0, -1, 0), (3, 0, 0), (0, 3, 0), (BIG, 0, 0), (0, BIG, 0), (0, -BIG, 0)] + [
                 entry for wrong in NO_INTEGERS for entry in [(wrong, 0, 0), (0, wrong, 0), (0, 0, wrong)]]

    def raised(self, count, facts, place):
        self.raises(BadFact, ring, count, facts, place=place)
        self.raises(BadFact, solution, count, facts, place=place)
        self.raises(BadFact, bound, count, facts, 0, 0, place=place)
        self.raises(BadFact, bound, count, facts, count - 1, 0, place=place)

    def test_wrong_entries(self):
        for wrong in self.WRONG:
            self.raised(3, [wrong], 0)

    def test_the_first_one_at_any_place(self):
        for wrong in self.WRONG:
            self.raised(3, [(0, 1, 2), (2, 2, 0), wrong, (0, 1, 2)], 2)
        self.raised(3, [(0, 1, 2), (0, 3, 2), None, (3, 0, 1)], 1)
        self.raised(12, [(11, 0, 1)] * 59 + [(12, 0, 1)], 59)

    def test_behind_a_ring(self):
        self.raised(3, [(0, 0, -1), (0, 1, 2), (0, 1, True)], 2)
        self.raised(2, [(0, 1, 0), (1, 0, -1), (0, 2, 0)], 2)

    def test_variables_up_to_the_count(self):
        self.raised(1, [(0, 0, 0), (1, 0, 0)], 1)
        self.assertIsNone(ring(2, [(0, 0, 0), (1, 0, 0)]))


if __name__ == "__main__":
    unittest.main()
