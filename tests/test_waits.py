"""Points 2, 21, 22 and 31 to 33: what may be known, and how long to wait for late rows."""

import itertools
import random
import unittest

from pastlooks.errors import BadBound, BadMoment, BadTerm, BadWorld, NotSettled, TooMany, Unknown
from pastlooks.terms import Now, told
from pastlooks.waits import is_unsettled, is_wait_paper, least_wait, may_know, unsettled, wait_paper
from pastlooks.worlds import World
from support import (
    BIG, NO_COUNTS, NO_INTEGERS, NO_PAPERS, NO_TERMS, NO_WORLDS, WAYS, PastTest, look, looks, nows, random_term,
    random_world, small_terms, worlds)

FAR = 10 ** 30
# Keys that no look names, with values of all kinds.
OTHERS = {"z": -1, "now": None, "A": True, "": "x", 5: [], None: 1.5, (1, 2): {}, True: -7, b"a": 2}


def is_allowed(world, lateness, moment, known):
    """Point 31 word by word."""
    rows, known_rows = world.rows(), known.rows()
    return all(row in rows for row in known_rows) and all(row[1] <= moment for row in known_rows) and all(
        row[1] + lateness[row[0]] > moment for row in rows if row not in known_rows)


def is_late(term, lateness, wait, world, known, now, moment):
    return is_allowed(world, lateness, moment, known) and moment >= now + wait and told(term, known, now) != told(
        term, world, now)


def late_examples(term, lateness, tried, last):
    """Pairs of the size of a world and of moment - now, for all that differs at 0 in these worlds up to this moment."""
    for world in tried:
        rows = world.rows()
        for count in range(len(rows)):
            for chosen in itertools.combinations(rows, count):
                known = World.of(list(chosen))
                if told(term, known, 0) != told(term, world, 0):
                    for moment in range(last + 1):
                        if is_allowed(world, lateness, moment, known):
                            yield len(world), moment


def random_late(source, depth, names="ab", spread=2):
    """A term within the limits and a lateness."""
    while True:
        term = random_term(source, source.randint(2, depth), names, spread)
        if 0 < term.looks <= 2 and term.choices <= 3:
            return term, {name: source.choice([0, 0, 1, spread, spread + 1]) for name in names}


class LateTest(PastTest):

    def check(self, term, lateness):
        """The least wait, after looking at all that the other functions say of it."""
        least = least_wait(term, lateness)
        self.same(least, least_wait(term, lateness))
        if least is None:
            for wait in (0, 1, 7, FAR):
                self.late(term, lateness, wait)
            return None
        self.same(least.__class__, int)
        self.assertGreaterEqual(least, 0)
        for wait in (least, least + 1, least + FAR):
            self.assertIsNone(unsettled(term, lateness, wait))
            self.same(is_wait_paper(term, lateness, wait, wait_paper(term, lateness, wait)), True)
        for wait in {least - 1, least - 2, least // 2, 0}:
            if 0 <= wait < least:
                self.late(term, lateness, wait)
        return least

    def late(self, term, lateness, wait):
        """The world that shows that the term is not settled for this wait."""
        thing = unsettled(term, lateness, wait)
        self.assertEqual([thing.__class__, len(thing)], [tuple, 4])
        self.assertEqual([part.__class__ for part in thing], [World, World, int, int])
        self.assertLessEqual(len(thing[0]), 4)
        self.assertTrue(is_late(term, lateness, wait, *thing))
        self.same(is_unsettled(term, lateness, wait, thing), True)
        self.raises(NotSettled, wait_paper, term, lateness, wait)
        return thing

    def waits(self, term, lateness, wanted):
        self.same(self.check(term, lateness), wanted)


class Waits(LateTest):

    def test_terms_without_looks(self):
        self.waits(Now(), {}, 0)
        self.waits(Now() + 5, {"a": 3}, 0)
        self.waits(Now().later(Now() - 2) | Now(), {}, 0)

    def test_looks_back(self):
        for late in (0, 1, 2, 3, 10, BIG):
            self.waits(look(), {"a": late}, late)
            self.waits(look(within=0), {"a": late}, late)
            self.waits(look(within=9), {"a": late}, late)
            self.waits(look(way="before"), {"a": late}, max(late - 1, 0))
            self.waits(look(way="before", within=1), {"a": late}, max(late - 1, 0))
            self.waits(look(way="before", within=0), {"a": late}, 0)

    def test_looks_ahead(self):
        for late in (0, 1, 2, 3, 10, BIG):
            self.waits(look(way="since"), {"a": late}, None)
            self.waits(look(way="after"), {"a": late}, None)
            self.waits(look(way="since", within=0), {"a": late}, late)
            self.waits(look(way="since", within=5), {"a": late}, late + 5)
            self.waits(look(way="after", within=0), {"a": late}, 0)
            self.waits(look(way="after", within=1), {"a": late}, late + 1)
            self.waits(look(way="after", within=5), {"a": late}, late + 5)

    def test_shifts(self):
        self.waits(look("a", Now() + 4), {"a": 3}, 7)
        self.waits(look("a", Now() - 2), {"a": 3}, 1)
        self.waits(look("a", Now() - 3), {"a": 3}, 0)
        self.waits(look("a", Now() - 4), {"a": 3}, 0)
        self.waits(look("a", Now() - 4, "since", 3), {"a": 3}, 2)
        self.waits(look() - 100, {"a": 3}, 3)
        self.waits(look("a", Now() + BIG), {"a": BIG}, 2 * BIG)

    def test_joined_looks(self):
        both = {"a": 3, "b": 7}
        self.waits(look() | Now(), both, 3)
        self.waits(look() | look("b"), both, 7)
        self.waits(look("b") | look(), both, 7)
        self.waits(look().later(look("b")), both, 7)
        self.waits(look().earlier(look("b")), both, 7)
        self.waits(look().later(Now()) | Now(), both, 0)
        self.waits(look().later(Now() - 2) | Now() - 2, both, 3)
        self.waits(look("a", Now() - 1).later(Now() - 2) | Now() - 2, both, 2)
        self.waits(look() | look(way="since"), both, None)
        self.waits((look(way="since") | Now() + 4).earlier(Now() + 4), both, 6)
        self.waits(Now() | look(way="since"), both, 0)
        self.waits(look().earlier(look()), both, 3)
        self.waits(look(way="before") | look(), both, 3)

    def test_endless_behind_a_case_that_waits_long(self):
        for late in (0, 1, 2, 3, 4, 5, 100, BIG):
            self.waits(look("b") | look(way="since"), {"a": 0, "b": late}, None)
            self.waits(look("b").later(look(way="since")), {"a": 0, "b": late}, None)
            self.waits(look("b", Now() + late, within=late) | look(way="since", within=3), {"a": 1, "b": late}, max(
                2 * late, 4))
            self.waits(look(way="since", within=3) | look("b", Now() + late), {"a": 1, "b": late}, max(2 * late, 4))

    def test_looks_at_looks(self):
        both = {"a": 3, "b": 7}
        self.waits(look("b", look()), both, 7)
        self.waits(look("a", look("b")), both, 7)
        self.waits(look("b", look(within=1) + 4), both, 11)
        self.waits(look("a", look()), both, 3)
        self.waits(look("a", look(), "before"), both, 3)
        self.waits(look("a", look(), "after"), both, None)
        self.waits(look("a", look(), "after", 2), both, 5)
        self.waits(look("a", look(way="since", within=4), "at", 0), both, 7)

    def test_terms_that_do_not_depend_on_late_rows(self):
        self.waits(look() | look(way="before"), {"a": 0}, 0)
        self.waits(look("a", look(way="before", within=0), "since"), {"a": 9}, 0)
        self.waits(look(within=3).later(Now()) | Now(), {"a": 9}, 0)

    def test_the_fewest_rows(self):
        late = {"a": 3, "b": 3, "c": 3}
        for term, wait, rows in [
                (look(), 0, 1), (look("b", look()), 2, 2), (look().later(look("b")), 2, 2), (look() | look("b"), 2, 1),
                (look(way="since") | Now(), 100, 1), (look("a", look(), "before"), 0, 2),
                (look("a", look(), "before") | Now(), 0, 2), (look("a", look(), "after") | Now(), 9, 2),
                (look().earlier(Now()), 2, 1)]:
            self.assertEqual(len(self.late(term, late, wait)[0]), rows, rows)

    def test_the_known_world(self):
        world, known, now, moment = self.late(look(), {"a": 3}, 2)
        self.same([len(world), len(known), moment - now], [1, 0, 2])
        self.same(world["a"], [now])
        # Row a is known in time; row b is late.
        world, known, now, moment = self.late(look("b", look(within=0)), {"a": 0, "b": 2}, 0)
        self.same(known.names(), ["a"])
        self.same(world.names(), ["a", "b"])

    def test_rows_beside_their_lateness(self):
        # With a lateness of 0, a row is unknown only behind the moment of knowing.
        world, known, now, moment = self.late(look(way="since", within=5), {"a": 0}, 4)
        self.same([moment - now, world["a"][0] - now, known.rows()], [4, 5, []])

    def test_other_keys_mean_nothing(self):
        for lateness in [{"a": 3, **OTHERS}, {**OTHERS, "a": 3}]:
            self.waits(look(), lateness, 3)
            self.same(unsettled(look(), lateness, 2), unsettled(look(), {"a": 3}, 2))
            self.same(wait_paper(look(), lateness, 3), wait_paper(look(), {"a": 3}, 3))
        self.waits(Now(), OTHERS, 0)

    def test_the_order_of_the_keys_has_no_meaning(self):
        term = look().later(look("b"))
        one, other = {"a": 3, "b": 7}, {"b": 7, "a": 3}
        self.same(least_wait(term, one), least_wait(term, other))
        self.same(wait_paper(term, one, 7), wait_paper(term, other, 7))
        self.assertEqual(unsettled(term, one, 5), unsettled(term, other, 5))

    def test_the_lateness_stays_as_it_is(self):
        lateness = {"b": 7, "a": 3, "q": [1]}
        self.check(look().later(look("b")), lateness)
        self.assertEqual(list(lateness.items()), [("b", 7), ("a", 3), ("q", [1])])

    def test_new_worlds(self):
        first = unsettled(look(), {"a": 3}, 2)
        first[0]["a"] = []
        first[1]["b"] = [3]
        self.late(look(), {"a": 3}, 2)

    def test_many_small_terms(self):
        source = random.Random(81)
        found = []
        for term in small_terms():
            found.append(self.check(term, {"a": source.randint(0, 4), "b": source.randint(0, 4)}))
        self.assertGreater(found.count(None), 10)
        self.assertGreater(len(found) - found.count(None) - found.count(0), 20)

    def test_many_random_terms(self):
        source = random.Random(82)
        found = []
        for _ in range(300):
            found.append(self.check(*random_late(source, 5)))
        self.assertGreater(found.count(None), 30)
        self.assertGreater(len(found) - found.count(None) - found.count(0), 80)

    def test_small_and_large_numbers(self):
        source = random.Random(80)
        found = []
        for _ in range(300):
            found.append(self.check(*random_late(source, 5, "ab", source.choice([5, 30, 10 ** 9]))))
        self.assertGreater(found.count(None), 30)
        self.assertGreater(len(found) - found.count(None) - found.count(0), 80)

    def test_the_largest_terms(self):
        source = random.Random(83)
        for _ in range(150):
            first, second = [
                (source.choice("ab"), Now() + source.randint(-2, 2), source.choice(WAYS), source.choice([None, 0, 1, 4]))
                for _ in range(2)]
            term = source.choice([
                look(*first).later(look(*second)), look(*first).earlier(Now()) | look(*second),
                look("a", look(*first).later(Now() - 1), *second[2:]), look("a", look(*first), *second[2:]).later(Now()),
                look(*first).earlier(look(*second)) | Now()])
            self.assertEqual([term.looks, term.choices], [2, 3])
            self.check(term, {"a": source.randint(0, 3), "b": source.randint(0, 3)})


class AllSmallWorlds(LateTest):

    def compare(self, source, names, most, spread, turns):
        """All that can be seen in small worlds is what the least wait and the examples say."""
        tried = list(worlds(names, most, spread))
        for _ in range(turns):
            term, lateness = random_late(source, 4, names)
            least = least_wait(term, lateness)
            seen = list(late_examples(term, lateness, tried, spread + 4))
            for wait in range(6):
                sizes = [size for size, moment in seen if moment >= wait]
                if least is not None and wait >= least:
                    self.assertEqual(sizes, [])
                elif sizes:
                    self.assertEqual(len(unsettled(term, lateness, wait)[0]), min(sizes))
                else:
                    # Only worlds that are not tried show it: larger ones, or wider ones.
                    thing = self.late(term, lateness, wait)
                    away = max(abs(row[1] - thing[2]) for row in thing[0].rows())
                    self.assertTrue(len(thing[0]) > most or away > spread)

    def test_one_stream(self):
        self.compare(random.Random(84), "a", 3, 4, 80)

    def test_two_streams(self):
        self.compare(random.Random(85), "ab", 2, 4, 80)

    def test_the_least_wait_is_seen_in_small_worlds(self):
        source = random.Random(86)
        tried = list(worlds("a", 2, 7))
        found = 0
        for term in small_terms():
            lateness = {"a": source.randint(0, 3), "b": 0}
            least = least_wait(term, lateness)
            if term.streams() == ["a"] and least is not None:
                found += least > 0
                seen = [moment for size, moment in late_examples(term, lateness, tried, 12)]
                self.assertEqual(max(seen, default=-1) + 1, least)
        self.assertGreater(found, 20)

    def test_random_worlds(self):
        source = random.Random(87)
        late = 0
        for _ in range(300):
            term, lateness = random_late(source, 5)
            least = least_wait(term, lateness)
            for _ in range(40):
                world = random_world(source, 4, 5)
                now, moment = source.randint(-3, 3), source.randint(-4, 8)
                rows = [row for row in world.rows() if row[1] <= moment and (
                    row[1] + lateness[row[0]] <= moment or source.randrange(2))]
                known = World.of(rows)
                if told(term, known, now) != told(term, world, now) and is_allowed(world, lateness, moment, known):
                    late += 1
                    self.assertTrue(least is None or moment - now < least or moment < now)
                    if moment >= now:
                        thing = (world, known, now, moment)
                        self.same(is_unsettled(term, lateness, moment - now, thing), True)
                        self.same(is_unsettled(term, lateness, moment - now + 1, thing), False)
        self.assertGreater(late, 300)


class MayKnow(PastTest):

    def test_unknown_rows(self):
        for moment, wanted in [(4, True), (5, True), (6, True), (7, False), (8, False), (BIG, False), (-BIG, True)]:
            self.same(may_know(World({"a": [5]}), {"a": 2}, moment, World()), wanted)
        for moment, wanted in [(4, True), (5, False), (6, False)]:
            self.same(may_know(World({"a": [5]}), {"a": 0}, moment, World()), wanted)
        self.same(may_know(World({"a": [5]}), {"a": BIG}, BIG + 4, World()), True)
        self.same(may_know(World({"a": [5]}), {"a": BIG}, BIG + 5, World()), False)

    def test_known_rows(self):
        for moment, wanted in [(3, False), (4, False), (5, True), (6, True), (7, True), (BIG, True)]:
            self.same(may_know(World({"a": [5]}), {"a": 2}, moment, World({"a": [5]})), wanted)
            self.same(may_know(World({"a": [5]}), {"a": 0}, moment, World({"a": [5]})), wanted)

    def test_the_example(self):
        self.same(may_know(World({"a": [1, 5]}), {"a": 2}, 6, World({"a": [1]})), True)
        self.same(may_know(World({"a": [1, 5]}), {"a": 2}, 6, World({"a": [5]})), False)
        self.same(may_know(World({"a": [1, 5]}), {"a": 2}, 6, World({"a": [1, 5]})), True)
        self.same(may_know(World({"a": [1, 5]}), {"a": 2}, 6, World()), False)

    def test_rows_that_do_not_exist(self):
        self.same(may_know(World({"a": [1]}), {"a": 2}, 6, World({"a": [1, 2]})), False)
        self.same(may_know(World({"a": [1]}), {"a": 2}, 6, World({"a": [1], "b": [1]})), False)
        self.same(may_know(World(), {}, 6, World({"b": [1]})), False)
        self.same(may_know(World(), {}, 6, World()), True)

    def test_each_stream_has_its_own_lateness(self):
        world = World({"a": [5], "b": [5]})
        self.same(may_know(world, {"a": 1, "b": 3}, 6, World({"a": [5]})), True)
        self.same(may_know(world, {"a": 3, "b": 1}, 6, World({"a": [5]})), False)
        self.same(may_know(world, {"b": 1, "a": 3}, 6, World({"b": [5]})), True)

    def test_against_the_words(self):
        source = random.Random(88)
        found = {True: 0, False: 0}
        for _ in range(3000):
            world = random_world(source, 3, 4)
            rows = [row for row in world.rows() if row[1] <= 1 or source.randrange(2)]
            known = World.of([row for row in rows if source.randrange(4)])
            if source.randrange(8) == 0:
                known = known.with_row("a", source.randint(-4, 4))
            lateness = {name: source.randint(0, 4) for name in "ab"}
            moment = source.randint(-2, 4)
            wanted = is_allowed(world, lateness, moment, known)
            found[wanted] += 1
            self.same(may_know(world, lateness, moment, known), wanted)
        self.assertGreater(min(found.values()), 300)

    def test_full_worlds(self):
        full = World({"a": list(range(300))})
        self.same(may_know(full, {"a": 0}, 299, full), True)
        self.same(may_know(full, {"a": 0}, 298, full), False)
        self.same(may_know(full, {"a": 0}, 298, World({"a": list(range(299))})), True)

    def test_other_keys_mean_nothing(self):
        for lateness in [{"a": 2, **OTHERS}, {**OTHERS, "a": 2}]:
            self.same(may_know(World({"a": [1, 5]}), lateness, 6, World({"a": [1]})), True)
        self.same(may_know(World(), OTHERS, 6, World()), True)
        # A stream without rows in the world needs no lateness, also if known has rows of it.
        self.same(may_know(World({"a": [1]}), {"a": 2}, 6, World({"b": [1]})), False)
        emptied = World({"a": [1], "b": [2]})
        emptied["b"] = []
        self.same(may_know(emptied, {"a": 2, "b": None}, 1, World()), True)

    def test_the_worlds_stay(self):
        world, known, lateness = World({"a": [1, 5]}), World({"a": [1]}), {"a": 2}
        may_know(world, lateness, 6, known)
        self.assertEqual([world, known, lateness], [World({"a": [1, 5]}), World({"a": [1]}), {"a": 2}])

    def test_wrong_worlds(self):
        for wrong in NO_WORLDS:
            self.raises(BadWorld, may_know, wrong, {}, None, None, value=wrong)
            self.raises(BadWorld, may_know, World(), {}, 0, wrong, value=wrong)
            self.raises(BadWorld, may_know, World({"a": [1]}), {"a": 1}, 0, wrong, value=wrong)

    def test_wrong_moments(self):
        for wrong in NO_INTEGERS:
            self.raises(BadMoment, may_know, World({"a": [1]}), {"a": 1}, wrong, World(), value=wrong)
            self.raises(BadMoment, may_know, World(), {}, wrong, None, value=wrong)

    def test_a_wrong_lateness(self):
        world = World({"b": [1], "a": [2], "c": [3]})
        self.raises(Unknown, may_know, world, {}, None, None, name="a")
        self.raises(Unknown, may_know, world, {"c": -1, "a": 0}, None, None, name="b")
        self.raises(Unknown, may_know, world, {"b": 0, "a": 0}, 5, World(), name="c")
        self.raises(Unknown, may_know, world, {"A": 0, "": 0, "bc": 1}, 5, World(), name="a")
        for wrong in NO_COUNTS:
            self.raises(BadBound, may_know, world, {"a": wrong}, None, None, value=wrong)
            self.raises(BadBound, may_know, world, {"c": "x", "b": wrong, "a": 0}, None, None, value=wrong)
            self.raises(BadBound, may_know, world, {"a": 0, "b": 0, "c": wrong}, 5, World(), value=wrong)

    def test_the_order_of_the_errors(self):
        self.raises(BadWorld, may_know, None, {"a": -1}, None, None, value=None)
        self.raises(Unknown, may_know, World({"a": [1]}), {}, None, None, name="a")
        self.raises(BadBound, may_know, World({"a": [1]}), {"a": -1}, None, None, value=-1)
        self.raises(BadMoment, may_know, World({"a": [1]}), {"a": 1}, "x", 7, value="x")
        self.raises(BadWorld, may_know, World({"a": [1]}), {"a": 1}, 5, 7, value=7)


class IsUnsettled(PastTest):

    def judged(self, lateness, wait, thing, wanted, term=None):
        self.same(is_unsettled(look() if term is None else term, lateness, wait, thing), wanted)

    def test_an_example(self):
        late, none = World({"a": [5]}), World()
        self.judged({"a": 3}, 2, (late, none, 5, 7), True)
        self.judged({"a": 3}, 0, (late, none, 5, 7), True)
        self.judged({"a": 3}, 3, (late, none, 5, 7), False)      # the moment is below 5 + 3
        self.judged({"a": 3}, 2, (late, none, 5, 6), False)
        self.judged({"a": 2}, 2, (late, none, 5, 7), False)      # known at 5 + 2 at the latest
        self.judged({"a": 3}, 2, (late, none, 4, 7), False)      # the same answer
        self.judged({"a": 3}, 2, (late, late, 5, 7), False)
        self.judged({"a": 3}, 2, (none, late, 5, 7), False)      # known has a row that does not exist
        self.judged({"a": 3}, 0, (late, none, 7, 7), True)
        self.judged({"a": 3}, 0, (late, none, 8, 7), False)      # the moment is below now
        self.judged({"a": 9}, 0, (late, none, 3, 4), False)
        self.judged({"a": BIG}, BIG - 1, (late, none, 5, BIG + 4), True)
        self.judged({"a": BIG}, BIG - 1, (late, none, 6, BIG + 4), False)

    def test_known_rows_are_not_behind_the_moment(self):
        world = World({"a": [3, 9]})
        term = look("a", Now() + 4)
        self.judged({"a": 5}, 0, (world, World({"a": [3]}), 6, 8), True, term)
        self.judged({"a": 5}, 0, (world, World({"a": [9]}), 0, 4), False, term)
        self.judged({"a": 5}, 0, (world, World({"a": [9]}), 0, 9), False, term)
        self.judged({"a": 7}, 0, (world, World({"a": [9]}), 0, 9), True, term)
        self.judged({"a": 7}, 0, (world, World({"a": [9]}), 0, 8), False, term)

    def test_any_number_of_rows(self):
        rows = list(range(0, 299))
        world, known = World({"a": rows, "z": [5]}), World({"a": rows[:-1], "z": [5]})
        self.judged({"a": 3, "z": 0}, 2, (world, known, 298, 300), True)
        self.judged({"a": 3, "z": 0}, 2, (world, known, 297, 300), False)
        self.judged({"a": 2, "z": 0}, 2, (world, known, 298, 300), False)

    def test_rows_of_streams_that_no_look_names(self):
        late = World({"a": [5], "z": [5]})
        known = World({"z": [5]})
        self.judged({"a": 3, "z": 0}, 2, (late, known, 5, 7), True)
        self.judged({"a": 3, "z": 3}, 2, (late, World(), 5, 7), True)
        self.judged({"a": 3, "z": 2}, 2, (late, World(), 5, 7), False)
        self.judged({"a": 3}, 2, (late, known, 5, 7), False)
        self.judged({"a": 3, "y": 3}, 2, (late, known, 5, 7), False)
        for wrong in NO_COUNTS:
            self.judged({"a": 3, "z": wrong}, 2, (late, known, 5, 7), False)
            self.judged({"a": 3, "z": wrong}, 2, (World({"a": [5]}), World(), 5, 7), True)
            # Rows of known alone need no lateness: they are no rows of the first world.
            self.judged({"a": 3, "z": wrong}, 2, (World({"a": [5]}), known, 5, 7), False)

    def test_anything_else(self):
        lateness = {"a": 3}
        late, none = World({"a": [5]}), World()
        for wrong in NO_PAPERS:
            for thing in [wrong, (wrong, none, 5, 7), (late, wrong, 5, 7), (wrong, wrong, wrong, wrong)]:
                self.judged(lateness, 2, thing, False)
        for wrong in NO_INTEGERS:
            self.judged(lateness, 0, (late, none, wrong, 7), False)
            self.judged(lateness, 0, (late, none, 5, wrong), False)
        for wrong in [[late, none, 5, 7], (late, none, 5), (late, none, 5, 7, 7), (late, none, 5, 7, None), (late, 5, 7),
                      (none, 5, late, 7), (5, 7, late, none), ((late, none), 5, 7), ({"a": [5]}, {}, 5, 7),
                      (late, {}, 5, 7), ({"a": [5]}, none, 5, 7), (late, None, 5, 7), (World, World, 5, 7),
                      ((late, none, 5, 7),), {late.copy: 1}, (Now(), none, 5, 7), late, none]:
            self.judged(lateness, 2, wrong, False)
        # The same with small moments, where True and False would do as integers.
        one = World({"a": [0]})
        self.judged({"a": 2}, 0, (one, none, 0, 1), True)
        self.judged({"a": 2}, 0, (one, none, False, 1), False)
        self.judged({"a": 2}, 0, (one, none, 0, True), False)

    def test_the_thing_stays(self):
        late, none = World({"a": [5]}), World()
        self.judged({"a": 3}, 2, (late, none, 5, 7), True)
        self.assertEqual([late.rows(), none.rows()], [[("a", 5)], []])

    def test_against_the_words(self):
        source = random.Random(89)
        found = {True: 0, False: 0}
        for _ in range(6000):
            term, lateness = random_late(source, 4)
            world = random_world(source, 2, 3)
            known = World.of([row for row in world.rows() if source.randrange(2)])
            now, moment, wait = source.randint(-3, 3), source.randint(-2, 4), source.choice([0, 0, 1, 2])
            wanted = is_late(term, lateness, wait, world, known, now, moment)
            found[wanted] += 1
            self.same(is_unsettled(term, lateness, wait, (world, known, now, moment)), wanted)
        self.assertGreater(min(found.values()), 50)


class Checks(PastTest):

    WITH_WAIT = [unsettled, wait_paper]
    WITH_THING = [is_unsettled, is_wait_paper]
    THINGS = [None, ("fine",), ("ring", (0,)), (World(), World(), 0, 0), ("cases", ())]

    def called(self, deed, term, lateness, wait=0, thing=None):
        if deed == least_wait:
            return deed(term, lateness)
        if deed in self.WITH_WAIT:
            return deed(term, lateness, wait)
        return deed(term, lateness, wait, thing)

    def refused(self, kind, term, lateness, wait=0, **values):
        """All functions that take a term raise this."""
        self.raises(kind, least_wait, term, lateness, **values)
        self.refused_wait(kind, term, lateness, wait, **values)

    def refused_wait(self, kind, term, lateness, wait, **values):
        for deed in self.WITH_WAIT:
            self.raises(kind, deed, term, lateness, wait, **values)
        for deed in self.WITH_THING:
            for thing in self.THINGS:
                self.raises(kind, deed, term, lateness, wait, thing, **values)

    def fits(self, term):
        for deed in [least_wait, *self.WITH_WAIT, *self.WITH_THING]:
            try:
                self.called(deed, term, {"a": 1, "b": 1})
            except NotSettled:
                pass

    def test_looks(self):
        self.fits(looks(2))
        self.fits(look("b", look()))
        self.refused(TooMany, looks(3), {"a": 1})
        self.refused(TooMany, look("b", look("a", look())), {"a": 1, "b": 1})
        self.refused(TooMany, looks(12), {"a": 1})

    def test_choices(self):
        now = Now()
        self.fits(now.later(now).earlier(now).later(now))
        self.refused(TooMany, now.later(now).earlier(now).later(now).earlier(now), {})
        self.fits(looks(2).later(now))
        self.refused(TooMany, looks(2).later(now).earlier(now), {"a": 1})
        self.fits(look().later(now).earlier(now))
        self.refused(TooMany, look().later(now).earlier(now).later(now), {"a": 1})

    def test_many_parts_with_few_looks(self):
        self.fits(look() | nows(18))
        chain = look()
        for count in range(5):
            chain = (chain | Now() + count) + 1
        self.fits(chain)

    def test_wrong_terms(self):
        for wrong in NO_TERMS:
            self.refused(BadTerm, wrong, {}, None, value=wrong)
            self.refused(BadTerm, wrong, {"a": -1}, -1, value=wrong)

    def test_a_wrong_lateness(self):
        term = look("b").later(look("a"))
        self.refused(Unknown, term, {}, name="a")
        self.refused(Unknown, term, {"b": -1}, None, name="a")
        self.refused(Unknown, term, {"a": 0, **OTHERS}, None, name="b")
        for wrong in NO_COUNTS:
            self.refused(BadBound, term, {"a": wrong}, None, value=wrong)
            self.refused(BadBound, term, {"b": "x", "a": wrong}, -5, value=wrong)
            self.refused(BadBound, term, {"b": wrong, "a": 0}, None, value=wrong)
            self.refused(BadBound, look("a", look(way="before", within=0)), {"a": wrong}, value=wrong)

    def test_each_look_needs_its_lateness(self):
        for term in [Now() | look("q"), look("q", look("p"), "before", 0), (look("q") + 1).earlier(Now())]:
            lateness = {name: 0 for name in term.streams() if name != "q"}
            self.refused(Unknown, term, lateness, name="q")

    def test_wrong_waits(self):
        for wrong in NO_COUNTS:
            for term, lateness in [(Now(), {}), (look(), {"a": 0}), (looks(2), {"a": 3})]:
                self.refused_wait(BadBound, term, lateness, wrong, value=wrong)

    def test_the_order_of_the_errors(self):
        self.refused(TooMany, looks(3), {}, None)
        self.refused(TooMany, looks(3), {"a": -1}, -1)
        self.refused(Unknown, look(), {}, -1, name="a")
        self.refused(BadBound, look(), {"a": -2}, -1, value=-2)
        self.refused_wait(BadBound, look(), {"a": 2}, -1, value=-1)
        self.raises(NotSettled, wait_paper, look(), {"a": 2}, 1)


if __name__ == "__main__":
    unittest.main()
