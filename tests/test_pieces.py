"""Points 2, 17 and 18: pieces, differences, changes and the generator answers."""

import random
import unittest

from pastlooks.errors import BadMoment, BadName, BadTerm, BadWorld, TooMany
from pastlooks.pieces import answers, changes, differences, pieces
from pastlooks.terms import Now, told
from pastlooks.worlds import World
from support import (
    BIG, NO_INTEGERS, NO_NAMES, NO_TERMS, NO_WORLDS, PastTest, deep, look, looks, random_term, random_world)

WIDE = 60  # all changes of the random terms lie nearer to 0 than this


def fitting(values, form):
    """How many of the values, given as pairs with their moments, the form gives from the left."""
    word, number = form
    for count, (moment, value) in enumerate(values):
        if value != {"none": None, "row": number, "shift": moment + (number or 0)}[word]:
            return count
    return len(values)


def pieces_by_trying(term, world):
    """Point 17 word by word, for answers that keep their form outside of the moments -WIDE to WIDE."""
    values = [(moment, told(term, world, moment)) for moment in range(-WIDE, WIDE + 1)]
    found = []
    while values:
        moment, value = values[0]
        forms = [("row", value), ("shift", value - moment)] if value is not None else [("none", None)]
        counts = [fitting(values, form) for form in forms]
        form = forms[counts.index(max(counts))]
        found.append((moment, moment + max(counts) - 1, *form))
        values = values[max(counts):]
    found[0] = (None, *found[0][1:])
    found[-1] = (found[-1][0], None, *found[-1][2:])
    return found


def differences_by_trying(term, world, other):
    moments = [moment for moment in range(-WIDE, WIDE + 1) if told(term, world, moment) != told(term, other, moment)]
    found = []
    for moment in moments:
        if found and found[-1][1] == moment - 1:
            found[-1] = (found[-1][0], moment)
        else:
            found.append((moment, moment))
    return [(None if first == -WIDE else first, None if last == WIDE else last) for first, last in found]


class Pieces(PastTest):

    def test_now(self):
        self.same(pieces(Now(), World({"a": [1]})), [(None, None, "shift", 0)])
        self.same(pieces(Now() - 7, World()), [(None, None, "shift", -7)])
        self.same(pieces(Now() + BIG, World()), [(None, None, "shift", BIG)])

    def test_a_look_without_rows(self):
        for way in ["at", "before", "since", "after"]:
            self.same(pieces(look(way=way), World({"b": [3]})), [(None, None, "none", None)])
            self.same(pieces(look(way=way, within=4), World()), [(None, None, "none", None)])

    def test_looks_without_limit(self):
        world = World({"a": [2, 5]})
        self.same(pieces(look(), world), [(None, 1, "none", None), (2, 4, "row", 2), (5, None, "row", 5)])
        self.same(pieces(look(way="before"), world), [(None, 2, "none", None), (3, 5, "row", 2), (6, None, "row", 5)])
        self.same(pieces(look(way="since"), world), [(None, 2, "row", 2), (3, 5, "row", 5), (6, None, "none", None)])
        self.same(pieces(look(way="after"), world), [(None, 1, "row", 2), (2, 4, "row", 5), (5, None, "none", None)])

    def test_looks_with_a_limit(self):
        world = World({"a": [0, 10]})
        none = ("none", None)
        self.same(pieces(look(within=3), world), [
            (None, -1, *none), (0, 3, "row", 0), (4, 9, *none), (10, 13, "row", 10), (14, None, *none)])
        self.same(pieces(look(way="before", within=3), world), [
            (None, 0, *none), (1, 3, "row", 0), (4, 10, *none), (11, 13, "row", 10), (14, None, *none)])
        self.same(pieces(look(way="since", within=3), world), [
            (None, -4, *none), (-3, 0, "row", 0), (1, 6, *none), (7, 10, "row", 10), (11, None, *none)])
        self.same(pieces(look(way="after", within=3), world), [
            (None, -4, *none), (-3, -1, "row", 0), (0, 6, *none), (7, 9, "row", 10), (10, None, *none)])
        self.same(pieces(look(within=9), world), [
            (None, -1, *none), (0, 9, "row", 0), (10, 19, "row", 10), (20, None, *none)])
        self.same(pieces(look(way="after", within=0), world), [(None, None, *none)])

    def test_a_single_moment_is_a_row(self):
        self.same(pieces(look(within=0), World({"a": [4]})), [
            (None, 3, "none", None), (4, 4, "row", 4), (5, None, "none", None)])
        self.same(pieces(look(within=0), World({"a": [4, 9]})), [
            (None, 3, "none", None), (4, 4, "row", 4), (5, 8, "none", None), (9, 9, "row", 9),
            (10, None, "none", None)])
        self.same(pieces(look(within=0) + 2, World({"a": [0]})), [
            (None, -1, "none", None), (0, 0, "row", 2), (1, None, "none", None)])

    def test_rows_side_by_side_give_a_shift(self):
        self.same(pieces(look(within=0), World({"a": [4, 5]})), [
            (None, 3, "none", None), (4, 5, "shift", 0), (6, None, "none", None)])
        self.same(pieces(look(way="before", within=1), World({"a": [4, 5, 6]})), [
            (None, 4, "none", None), (5, 7, "shift", -1), (8, None, "none", None)])
        self.same(pieces(look(), World({"a": [4, 5, 6]})), [
            (None, 3, "none", None), (4, 6, "shift", 0), (7, None, "row", 6)])
        self.same(pieces(look(way="since"), World({"a": [4, 5, 6]})), [
            (None, 4, "row", 4), (5, 6, "shift", 0), (7, None, "none", None)])

    def test_a_form_takes_the_first_moment_of_the_next_one(self):
        # Up to 3 the answer is now; at 4 it is the row 4, which the shift takes, too.
        term = Now().earlier(look(way="since") | Now() - 100)
        self.same(pieces(term, World({"a": [4]})), [(None, 4, "shift", 0), (5, None, "shift", -100)])
        term = Now().later(look(way="since") | Now())
        self.same(pieces(term, World({"a": [4]})), [(None, 4, "row", 4), (5, None, "shift", 0)])

    def test_the_choice_is_made_from_the_left(self):
        # 0 1 1: the shift reaches two moments from 0 on, so that only one is left for the row.
        self.same(pieces(look(within=1) | look("b"), World({"a": [0, 1], "b": [1]})), [
            (None, -1, "none", None), (0, 1, "shift", 0), (2, None, "row", 1)])
        # 0 0 1: here the row comes first.
        self.same(pieces(look("b", within=1) | look("a", within=0), World({"a": [2], "b": [0]})), [
            (None, -1, "none", None), (0, 1, "row", 0), (2, 2, "row", 2), (3, None, "none", None)])

    def test_joined_pieces(self):
        self.same(pieces(look() | look(), World({"a": [3]})), [(None, 2, "none", None), (3, None, "row", 3)])
        self.same(pieces(look() | look(way="since"), World({"a": [3]})), [(None, None, "row", 3)])
        self.same(pieces(look(way="after") | Now() | Now() + 1, World()), [(None, None, "shift", 0)])
        self.same(pieces((look() | Now()).later(Now()), World({"a": [3]})), [(None, None, "shift", 0)])

    def test_later_and_earlier(self):
        world = World({"a": [3]})
        self.same(pieces(look(way="since").later(Now() + 2), world), [
            (None, 1, "row", 3), (2, 3, "shift", 2), (4, None, "none", None)])
        self.same(pieces(look(way="since").earlier(Now() + 2), world), [
            (None, 1, "shift", 2), (2, 3, "row", 3), (4, None, "none", None)])
        self.same(pieces((Now() + 1).later(Now() - 1), world), [(None, None, "shift", 1)])
        self.same(pieces((Now() + 1).earlier(Now() - 1), world), [(None, None, "shift", -1)])
        world = World({"a": [3], "b": [8]})
        self.same(pieces(look(way="since").later(look("b", way="since")), world), [
            (None, 3, "row", 8), (4, None, "none", None)])
        self.same(pieces(look().earlier(look("b")), world), [(None, 7, "none", None), (8, None, "row", 3)])

    def test_a_look_at_a_row(self):
        world = World({"a": [0, 10], "b": [4, 20]})
        self.same(pieces(look("b", look(), "since"), world), [
            (None, -1, "none", None), (0, 9, "row", 4), (10, None, "row", 20)])
        self.same(pieces(look("b", look(), "since", 4), world), [
            (None, -1, "none", None), (0, 9, "row", 4), (10, None, "none", None)])
        self.same(pieces(look("b", look(), "at", 6), world), [
            (None, 9, "none", None), (10, None, "row", 4)])

    def test_a_look_at_a_shift(self):
        world = World({"a": [10]})
        self.same(pieces(look("a", Now() - 3), world), [(None, 12, "none", None), (13, None, "row", 10)])
        self.same(pieces(look("a", Now() + 3, "since", 2), world), [
            (None, 4, "none", None), (5, 7, "row", 10), (8, None, "none", None)])

    def test_a_look_at_shifts_that_change(self):
        world = World({"a": [0, 5, 10, 15], "b": [7]})
        moment = look("b") - 100 | Now() - 5  # behind 7 nothing is found any more
        self.same(pieces(look("a", moment, "at"), world), [
            (None, 4, "none", None), (5, 6, "row", 0), (7, None, "none", None)])
        moment = look("b", way="since") + 8 | Now() - 5
        self.same(pieces(look("a", moment, "at"), world), [
            (None, 7, "row", 15), (8, 9, "row", 0), (10, 14, "row", 5), (15, 19, "row", 10), (20, None, "row", 15)])

    def test_a_look_at_a_shift_that_ends(self):
        world = World({"a": [3, 26, 28, 31], "b": [30]})
        moment = (Now() + 10).earlier(look("b", way="since"))  # now + 10 up to 20, then 30 up to 30
        self.same(pieces(look("a", moment), world), [
            (None, -8, "none", None), (-7, 15, "row", 3), (16, 17, "row", 26), (18, 30, "row", 28),
            (31, None, "none", None)])
        self.same(pieces(look("a", moment, "after"), world), [
            (None, -8, "row", 3), (-7, 15, "row", 26), (16, 17, "row", 28), (18, 30, "row", 31),
            (31, None, "none", None)])

    def test_looks_at_shifts_that_begin_and_end(self):
        source = random.Random(20)
        for _ in range(400):
            edge = look("b", way=source.choice(["at", "before", "since", "after"]), within=source.choice([None, 3, 9]))
            moment = (Now() + source.randint(-9, 9)).later(edge + source.randint(-9, 9))
            moment = moment.earlier(Now() + source.randint(-9, 9)) if source.randrange(2) else moment
            way, limit = source.choice(["at", "before", "since", "after"]), source.choice([None, None, 0, 1, 5])
            term = look("a", moment, way, limit) | Now() + source.randint(-2, 2)
            world = World({"a": source.sample(range(-15, 16), source.choice([3, 12, 25])),
                           "b": source.sample(range(-15, 16), source.choice([1, 3, 6]))})
            self.same(pieces(term, world), pieces_by_trying(term, world))

    def test_numbers_of_any_size(self):
        world = World({"a": [-BIG, BIG]})
        self.same(pieces(look(within=BIG), world), [
            (None, -BIG - 1, "none", None), (-BIG, 0, "row", -BIG), (1, BIG - 1, "none", None),
            (BIG, 2 * BIG, "row", BIG), (2 * BIG + 1, None, "none", None)])

    def test_many_at_random(self):
        source = random.Random(21)
        words = set()
        for _ in range(1500):
            term = random_term(source, source.randint(1, 5))
            world = random_world(source, 4, 6)
            found = pieces(term, world)
            self.same(found, pieces_by_trying(term, world))
            words |= {piece[2] for piece in found}
        self.assertEqual(words, {"none", "row", "shift"})

    def test_dense_worlds(self):
        source = random.Random(22)
        for _ in range(400):
            term = random_term(source, source.randint(1, 4))
            world = random_world(source, 9, 6)
            self.same(pieces(term, world), pieces_by_trying(term, world))

    def test_the_largest_world(self):
        world = World({"a": [10 * k for k in range(300)]})
        found = pieces(look(within=3), world)
        self.assertEqual(len(found), 601)
        self.same(found[:3], [(None, -1, "none", None), (0, 3, "row", 0), (4, 9, "none", None)])
        self.same(found[-2:], [(2990, 2993, "row", 2990), (2994, None, "none", None)])
        self.assertEqual(pieces(deep(12), world)[-1], (2991, None, "none", None))
        self.same(pieces(looks(12), world), [(None, -1, "none", None)] + [
            (10 * k, 10 * k + 9, "row", 10 * k) for k in range(299)] + [(2990, None, "row", 2990)])

    def test_a_new_list(self):
        world = World({"a": [1]})
        found = pieces(look(), world)
        wanted = list(found)
        found.clear()
        self.assertEqual(pieces(look(), world), wanted)
        self.assertEqual(world, World({"a": [1]}))

    def test_wrong_arguments(self):
        for wrong in NO_TERMS:
            self.raises(BadTerm, pieces, wrong, World(), value=wrong)
            self.raises(BadTerm, pieces, wrong, None, value=wrong)
        for wrong in NO_WORLDS:
            self.raises(BadWorld, pieces, Now(), wrong, value=wrong)


class Differences(PastTest):

    def test_no_difference(self):
        world = World({"a": [1], "b": [2]})
        self.same(differences(look(), world, world), [])
        self.same(differences(look(), world, world.copy()), [])
        self.same(differences(look(), world, World({"a": [1]})), [])
        self.same(differences(Now() + 1, World(), world), [])

    def test_everywhere(self):
        self.same(differences(look() | look(way="since"), World(), World({"a": [3]})), [(None, None)])
        self.same(differences(look() | Now(), World({"a": [3]}), World({"a": [3, 5]})), [(5, None)])

    def test_ends(self):
        self.same(differences(look(), World(), World({"a": [3]})), [(3, None)])
        self.same(differences(look(), World({"a": [3]}), World()), [(3, None)])
        self.same(differences(look(way="since"), World(), World({"a": [3]})), [(None, 3)])
        self.same(differences(look(within=2), World({"a": [3]}), World({"a": [9]})), [(3, 5), (9, 11)])

    def test_all_but_one_moment(self):
        term = look() | look(way="since") | Now()
        self.same(differences(term, World({"a": [3]}), World()), [(None, 2), (4, None)])
        self.same(differences(term, World(), World({"a": [3]})), [(None, 2), (4, None)])

    def test_maximal_stretches(self):
        # Two pieces of the one world and three of the other one, but one stretch.
        self.same(differences(look(), World({"a": [0, 10]}), World({"a": [-5, -3, 5, 20]})), [(-5, None)])
        self.same(differences(look(), World({"a": [0, 10]}), World({"a": [0, 5, 7, 10]})), [(5, 9)])
        # The row 5 is found in both worlds at 5 alone.
        one = look("b") | Now()
        self.same(differences(one, World({"b": [5]}), World({"b": [6]})), [(6, None)])

    def test_many_at_random(self):
        source = random.Random(23)
        found = 0
        for _ in range(1200):
            term = random_term(source, source.randint(1, 5))
            world = random_world(source, 4, 6)
            other = random_world(source, 4, 6) if source.randrange(2) else world.with_row("a", source.randint(-6, 6))
            wanted = differences_by_trying(term, world, other)
            found += len(wanted)
            self.same(differences(term, world, other), wanted)
            self.same(differences(term, other, world), wanted)
        self.assertGreater(found, 300)

    def test_wrong_arguments(self):
        for wrong in NO_TERMS:
            self.raises(BadTerm, differences, wrong, None, None, value=wrong)
        for wrong in NO_WORLDS:
            self.raises(BadWorld, differences, Now(), wrong, 7, value=wrong)
            self.raises(BadWorld, differences, Now(), World(), wrong, value=wrong)


class Changes(PastTest):

    def test_one_more_row(self):
        world = World({"a": [2, 9]})
        self.same(changes(look(), world, "a", 5), [(5, 8)])
        self.same(changes(look(), world, "a", 10), [(10, None)])
        self.same(changes(look(way="since"), world, "a", 0), [(None, 0)])
        self.same(changes(look(), world, "b", 5), [])
        self.same(world.rows(), [("a", 2), ("a", 9)])

    def test_a_row_that_is_there_already(self):
        world = World({"a": [2, 9]})
        self.same(changes(look(), world, "a", 2), [])
        self.same(changes(look(), world, "a", 9), [])

    def test_a_full_world(self):
        world = World({"a": list(range(0, 598, 2)), "b": [7]})
        self.assertEqual(len(world), 300)
        self.same(changes(look(), world, "a", 4), [])
        self.same(changes(look(), world, "b", 7), [])
        self.raises(TooMany, changes, look(), world, "a", 5)
        self.raises(TooMany, changes, Now(), world, "c", 4)
        world["b"] = []
        self.same(changes(look(), world, "a", 5), [(5, 5)])

    def test_against_differences(self):
        source = random.Random(24)
        for _ in range(400):
            term = random_term(source, source.randint(1, 5))
            world = random_world(source, 4, 6)
            name, moment = source.choice("ab"), source.randint(-6, 6)
            self.same(changes(term, world, name, moment), differences_by_trying(
                term, world, world.with_row(name, moment)))

    def test_wrong_arguments(self):
        full = World({"a": list(range(300))})
        for wrong in NO_TERMS:
            self.raises(BadTerm, changes, wrong, None, "A", None, value=wrong)
        for wrong in NO_WORLDS:
            self.raises(BadWorld, changes, Now(), wrong, "A", None, value=wrong)
        for wrong in NO_NAMES:
            self.raises(BadName, changes, Now(), full, wrong, None, name=wrong)
            self.raises(BadName, changes, Now(), World(), wrong, 0, name=wrong)
        for wrong in NO_INTEGERS:
            self.raises(BadMoment, changes, Now(), full, "a", wrong, value=wrong)
            self.raises(BadMoment, changes, Now(), World(), "b", wrong, value=wrong)


class Answers(PastTest):

    def test_in_their_order(self):
        world = World({"a": [3, 8]})
        self.same(list(answers(look(), world, [8, 2, 3, 7, 3])), [8, None, 3, 3, 3])
        self.same(list(answers(Now() + 1, world, [BIG, -BIG])), [BIG + 1, 1 - BIG])
        self.same(list(answers(look(), world, [])), [])

    def test_one_by_one(self):
        going = answers(look(), World({"a": [3]}), [5, 1, None, 5])
        self.assertIs(iter(going), going)
        self.same(next(going), 3)
        self.assertIsNone(next(going))
        self.raises(BadMoment, next, going, value=None)
        self.raises(StopIteration, next, going)

    def test_wrong_moments_at_any_place(self):
        for wrong in NO_INTEGERS:
            for count in range(4):
                going = answers(Now(), World(), list(range(count)) + [wrong, 7, None])
                self.same([next(going) for _ in range(count)], list(range(count)))
                self.raises(BadMoment, next, going, value=wrong)

    def test_errors_come_with_the_first_answer(self):
        for wrong in NO_TERMS:
            going = answers(wrong, None, [None])
            self.raises(BadTerm, next, going, value=wrong)
            self.raises(BadTerm, list, answers(wrong, World(), []), value=wrong)
        for wrong in NO_WORLDS:
            going = answers(Now(), wrong, [None])
            self.raises(BadWorld, next, going, value=wrong)
            self.raises(BadWorld, list, answers(Now(), wrong, []), value=wrong)

    def test_the_list_stays(self):
        moments = [3, 1, 2]
        list(answers(Now(), World(), moments))
        self.assertEqual(moments, [3, 1, 2])

    def test_against_told(self):
        source = random.Random(25)
        for _ in range(100):
            term = random_term(source, source.randint(1, 5))
            world = random_world(source, 4, 6)
            moments = [source.randint(-9, 9) for _ in range(10)]
            self.same(list(answers(term, world, moments)), [told(term, world, moment) for moment in moments])


if __name__ == "__main__":
    unittest.main()
