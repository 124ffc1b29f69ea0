"""Points 2, 3 and 12 to 15: worlds and the names of their streams."""

import random
import unittest

from pastlooks import worlds
from pastlooks.errors import BadMoment, BadName, BadRows, BadWorld, TooMany
from pastlooks.terms import Now
from pastlooks.worlds import World
from support import BIG, NO_INTEGERS, NO_NAMES, PastTest, nested_list

NO_WORLDS = [None, 0, 1, True, "a", b"", [], [("a", 1)], (), {}, {"a": [1]}, set(), object(), Now(), World]
NO_ROWS = [None, 1, True, "", "12", b"12", (), (1, 2), {}, {1: 2}, {1}, range(3), [1, 1], [5, 3, 5], [BIG, 1, BIG],
           [-2, -2], [nested_list(50)], [[1]], [{}], World(), Now()] + [[1, wrong] for wrong in NO_INTEGERS]


def full():
    """A world with 300 rows, in three streams."""
    return World({"a": list(range(100)), "b": list(range(100)), "c": list(range(100))})


class Making(PastTest):

    def test_the_class_and_its_methods_are_defined_in_the_file(self):
        self.assertEqual(World.__module__, "pastlooks.worlds")
        for name in ["of", "names", "rows", "copy", "with_row", "trial", "__getitem__", "__setitem__", "__contains__",
                     "__len__", "__or__", "__ior__", "__eq__"]:
            self.assertIn(name, vars(World))
        self.assertIs(worlds.World, World)

    def test_an_empty_world(self):
        for world in [World(), World(None), World({}), World({"a": []}), World.of([]), World(rows=None)]:
            self.same(world.rows(), [])
            self.same(world.names(), [])
            self.same(len(world), 0)
            self.same(world["a"], [])
            self.assertEqual(world, World())

    def test_the_lists_may_be_in_any_order(self):
        world = World({"b": [5, 2, -7], "a": [9]})
        self.same(world["b"], [-7, 2, 5])
        self.same(world.rows(), [("a", 9), ("b", -7), ("b", 2), ("b", 5)])

    def test_the_order_of_the_keys_has_no_meaning(self):
        one = World({"a": [1], "b": [2, 3]})
        other = World({"b": [3, 2], "a": [1]})
        self.assertEqual(one, other)
        self.same(one.rows(), other.rows())
        self.same(other.names(), ["a", "b"])

    def test_the_dict_and_its_lists_are_copied(self):
        rows = {"a": [3, 1]}
        world = World(rows)
        self.assertEqual(rows, {"a": [3, 1]})
        rows["a"].append(2)
        rows["b"] = [4]
        self.same(world.rows(), [("a", 1), ("a", 3)])

    def test_two_worlds_of_one_dict_are_apart(self):
        rows = {"a": [3, 1]}
        one = World(rows)
        other = World(rows)
        one["a"] = [7]
        self.same(other["a"], [1, 3])

    def test_integers_of_any_size(self):
        world = World({"a": [BIG, 0, -BIG]})
        self.same(world["a"], [-BIG, 0, BIG])
        self.assertTrue(("a", -BIG) in world)
        self.assertFalse(("a", BIG + 1) in world)

    def test_rows_of_300_and_301(self):
        self.same(len(World({"a": list(range(300))})), 300)
        self.same(len(full()), 300)
        self.raises(TooMany, World, {"a": list(range(301))})
        self.raises(TooMany, World, {"a": list(range(150)), "b": list(range(151))})
        self.raises(TooMany, World, {"a": list(range(100000))})

    def test_wrong_names(self):
        for name in NO_NAMES:
            try:
                hash(name)
            except TypeError:
                continue
            self.raises(BadName, World, {name: [1]}, name=name)
            self.raises(BadName, World, {name: []}, name=name)
            self.raises(BadName, World, {"a": [1], name: [1]}, name=name)

    def test_names_of_1_and_12_letters(self):
        for name in ["a", "z", "m", "now", "last", "abcdefghijkl", "zzzzzzzzzzzz"]:
            self.same(World({name: [1]}).names(), [name])

    def test_every_letter_is_a_letter(self):
        for letter in "abcdefghijklmnopqrstuvwxyz":
            self.same(World({letter: [1]}).names(), [letter])
        for number in [*range(97), *range(123, 400)]:
            self.raises(BadName, World, {chr(number): [1]}, name=chr(number))

    def test_wrong_rows(self):
        for wrong in NO_ROWS:
            self.raises(BadRows, World, {"ab": wrong}, name="ab")

    def test_the_order_of_the_errors_is_that_of_the_dict(self):
        self.raises(BadRows, World, {"b": [1, 1], "A": [1], "a": None}, name="b")
        self.raises(BadRows, World, {"b": None, "a": [1, 1]}, name="b")
        self.raises(BadName, World, {"b": [1], "A": None, "c": None}, name="A")
        self.raises(BadName, World, {"A": None}, name="A")

    def test_too_many_comes_last(self):
        many = list(range(301))
        self.raises(BadName, World, {"a": many, "A": [1]}, name="A")
        self.raises(BadRows, World, {"a": many, "b": [1, 1]}, name="b")
        self.raises(BadRows, World, {"a": many + [0]}, name="a")


class Pairs(PastTest):

    def test_pairs_in_any_order(self):
        self.same(World.of([("b", 2), ("a", 9), ("b", -1)]).rows(), [("a", 9), ("b", -1), ("b", 2)])

    def test_pairs_that_occur_several_times_give_one_row(self):
        world = World.of([("a", 3), ("b", 3), ("a", 3), ("a", 3)])
        self.same(world.rows(), [("a", 3), ("b", 3)])
        self.same(len(world), 2)

    def test_the_list_of_pairs_stays_as_it_is(self):
        pairs = [("b", 2), ("a", 9), ("b", 2)]
        World.of(pairs)
        self.assertEqual(pairs, [("b", 2), ("a", 9), ("b", 2)])

    def test_rows_of_300_and_301(self):
        pairs = [("ab", k) for k in range(300)]
        self.same(len(World.of(pairs + pairs)), 300)
        self.raises(TooMany, World.of, pairs + [("b", 0)])

    def test_wrong_pairs(self):
        for name in NO_NAMES:
            self.raises(BadName, World.of, [("a", 1), (name, 1)], name=name)
        for wrong in NO_INTEGERS:
            self.raises(BadMoment, World.of, [("a", 1), ("a", wrong)], value=wrong)

    def test_the_order_of_the_errors(self):
        self.raises(BadName, World.of, [("A", True), ("a", 1.5)], name="A")
        self.raises(BadMoment, World.of, [("a", "x"), ("A", 1)], value="x")
        self.raises(BadName, World.of, [("a", k) for k in range(301)] + [("", 1)], name="")
        self.raises(BadMoment, World.of, [("a", k) for k in range(301)] + [("a", None)], value=None)


class RowsByName(PastTest):

    def test_reading(self):
        world = World({"a": [5, 2]})
        self.same(world["a"], [2, 5])
        self.same(world["b"], [])

    def test_each_list_is_new(self):
        world = World({"a": [5, 2]})
        world["a"].append(9)
        world["b"].append(9)
        world.rows().append(("c", 1))
        world.names().append("c")
        self.same(world.rows(), [("a", 2), ("a", 5)])
        self.same(world.names(), ["a"])
        self.same(world["b"], [])

    def test_writing_replaces_all_rows_of_the_stream(self):
        world = World({"a": [5, 2], "b": [1]})
        world["a"] = [9, 7]
        self.same(world.rows(), [("a", 7), ("a", 9), ("b", 1)])
        world["c"] = [0]
        self.same(world.names(), ["a", "b", "c"])

    def test_the_given_list_is_copied_and_stays_as_it_is(self):
        world = World()
        moments = [3, 1]
        world["a"] = moments
        self.assertEqual(moments, [3, 1])
        moments.append(2)
        self.same(world["a"], [1, 3])

    def test_no_rows_any_more(self):
        world = World({"a": [5, 2], "b": [1]})
        world["a"] = []
        self.same(world.names(), ["b"])
        self.assertFalse("a" in world)
        self.assertEqual(world, World({"b": [1]}))
        world["never"] = []
        self.same(world.names(), ["b"])

    def test_wrong_names(self):
        for name in NO_NAMES:
            world = World({"a": [1]})
            self.raises(BadName, world.__getitem__, name, name=name)
            self.raises(BadName, world.__setitem__, name, [1], name=name)
            self.raises(BadName, world.__setitem__, name, None, name=name)
            self.same(world.rows(), [("a", 1)])

    def test_wrong_rows_leave_the_world_as_it_is(self):
        for wrong in NO_ROWS:
            world = World({"ab": [1]})
            self.raises(BadRows, world.__setitem__, "ab", wrong, name="ab")
            self.raises(BadRows, world.__setitem__, "b", wrong, name="b")
            self.same(world.rows(), [("ab", 1)])

    def test_rows_of_300_and_301(self):
        world = full()
        self.raises(TooMany, world.__setitem__, "d", [1])
        self.raises(TooMany, world.__setitem__, "a", list(range(500, 601)))
        self.assertEqual(world, full())
        world["a"] = list(range(500, 600))
        self.same(len(world), 300)
        world["a"] = [1]
        world["d"] = list(range(99))
        self.same(len(world), 300)
        self.raises(BadRows, world.__setitem__, "a", list(range(301)) + [0], name="a")
        self.raises(BadName, world.__setitem__, "A", list(range(301)), name="A")


class Asking(PastTest):

    def test_names(self):
        world = World({"a": [5], "b": []})
        self.assertIs("a" in world, True)
        self.assertIs("b" in world, False)
        self.assertIs("c" in world, False)

    def test_rows(self):
        world = World({"a": [5, 1, 0]})
        self.assertIs(("a", 5) in world, True)
        self.assertIs(("a", 0) in world, True)
        self.assertIs(("a", 4) in world, False)
        self.assertIs(("b", 5) in world, False)
        self.assertIs(("a", BIG) in world, False)

    def test_anything_else(self):
        world = World({"a": [5, 1, 0], "b": [2]})
        for thing in [*NO_NAMES, *NO_INTEGERS, World(), Now(), nested_list(100), ["a", 5], ["a"], ("a", 5, 5), ("a", [5]),
                      (("a",), 5), (("a", 5),), ((("a", 5), 5)), (5, "a")]:
            if thing != ("a", 3):
                self.assertIs(thing in world, False, thing.__class__)
        for wrong in NO_INTEGERS:
            self.assertIs(("a", wrong) in world, False)
        for wrong in NO_NAMES:
            self.assertIs((wrong, 5) in world, False)

    def test_true_and_false_are_not_moments(self):
        world = World({"a": [0, 1]})
        self.assertIs(("a", True) in world, False)
        self.assertIs(("a", False) in world, False)
        self.assertIs(("a", 1.0) in world, False)

    def test_len(self):
        self.same(len(World({"a": [5, 1], "b": [5], "c": []})), 3)

    def test_names_and_rows_are_ordered(self):
        world = World({"ba": [3, -4], "b": [10, 9], "aa": [1], "z": [0]})
        self.same(world.names(), ["aa", "b", "ba", "z"])
        self.same(world.rows(), [("aa", 1), ("b", 9), ("b", 10), ("ba", -4), ("ba", 3), ("z", 0)])


class Joining(PastTest):

    def test_a_new_world_with_the_rows_of_both(self):
        one = World({"a": [5, 1], "b": [2]})
        other = World({"a": [3, 5], "c": [7]})
        both = one | other
        self.assertIsInstance(both, World)
        self.same(both.rows(), [("a", 1), ("a", 3), ("a", 5), ("b", 2), ("c", 7)])
        self.same(one.rows(), [("a", 1), ("a", 5), ("b", 2)])
        self.same(other.rows(), [("a", 3), ("a", 5), ("c", 7)])

    def test_the_new_world_is_apart_from_both(self):
        one = World({"a": [1]})
        other = World({"b": [2]})
        for both in [one | other, one | World(), World() | one, one | one]:
            both["a"] = [9]
            both["b"] = [9]
        self.same(one.rows(), [("a", 1)])
        self.same(other.rows(), [("b", 2)])
        both = one | other
        one["a"] = [4]
        other["b"] = []
        self.same(both.rows(), [("a", 1), ("b", 2)])

    def test_adding_to_the_world_itself(self):
        world = World({"a": [5, 1]})
        itself = world
        other = World({"a": [3, 5], "c": [7]})
        world |= other
        self.assertIs(world, itself)
        self.same(world.rows(), [("a", 1), ("a", 3), ("a", 5), ("c", 7)])
        self.same(other.rows(), [("a", 3), ("a", 5), ("c", 7)])
        world["c"] = [8]
        self.same(other["c"], [7])
        world |= world
        self.same(world.rows(), [("a", 1), ("a", 3), ("a", 5), ("c", 8)])

    def test_wrong_worlds(self):
        for wrong in NO_WORLDS:
            world = World({"a": [1]})
            self.raises(BadWorld, lambda: world | wrong, value=wrong)
            self.raises(BadWorld, world.__ior__, wrong, value=wrong)
            self.same(world.rows(), [("a", 1)])

    def test_wrong_worlds_by_sign(self):
        world = World({"a": [1]})
        with self.assertRaises(BadWorld):
            world |= {"b": [2]}
        self.same(world.rows(), [("a", 1)])

    def test_rows_of_300_and_301(self):
        self.same(len(full() | full()), 300)
        self.same(len(World({"a": list(range(150))}) | World({"a": list(range(100, 300))})), 300)
        self.raises(TooMany, lambda: full() | World({"a": [100]}))
        self.raises(TooMany, lambda: full() | World({"d": [1]}))
        world = full()
        world |= full()
        self.raises(TooMany, world.__ior__, World({"a": [7, 100], "d": [1]}))
        self.assertEqual(world, full())
        self.same(len(world), 300)

    def test_equal_worlds(self):
        self.assertIs(World({"a": [1, 2]}) == World({"a": [2, 1], "b": []}), True)
        self.assertIs(World({"a": [1, 2]}) != World({"a": [2, 1]}), False)
        for other in [World(), World({"a": [1]}), World({"a": [1, 2, 3]}), World({"b": [1, 2]}), World({"a": [1, 3]}),
                      World({"a": [1, 2], "b": [1]})]:
            self.assertIs(World({"a": [1, 2]}) == other, False)
            self.assertIs(World({"a": [1, 2]}) != other, True)

    def test_a_world_is_not_equal_to_anything_else(self):
        for thing in [*NO_WORLDS, 0, [], {}, {"a": [1]}]:
            for world in [World(), World({"a": [1]})]:
                self.assertIs(world == thing, False)
                self.assertIs(thing == world, False)
                self.assertIs(world != thing, True)


class Copies(PastTest):

    def test_a_copy_has_the_same_rows_and_is_apart(self):
        world = World({"a": [2, 1]})
        twin = world.copy()
        self.assertIsInstance(twin, World)
        self.assertIsNot(twin, world)
        self.assertEqual(twin, world)
        twin["a"] = [9]
        twin |= World({"b": [1]})
        self.same(world.rows(), [("a", 1), ("a", 2)])
        world["a"] = []
        self.same(twin.rows(), [("a", 9), ("b", 1)])

    def test_with_row(self):
        world = World({"a": [2, 5]})
        self.same(world.with_row("a", 3).rows(), [("a", 2), ("a", 3), ("a", 5)])
        self.same(world.with_row("b", -BIG).rows(), [("a", 2), ("a", 5), ("b", -BIG)])
        self.same(world.rows(), [("a", 2), ("a", 5)])

    def test_with_a_row_that_exists(self):
        world = World({"a": [2, 5]})
        more = world.with_row("a", 5)
        self.assertEqual(more, world)
        self.assertIsNot(more, world)
        more["a"] = []
        self.same(world["a"], [2, 5])

    def test_with_row_on_300_rows(self):
        self.same(len(full().with_row("a", 99)), 300)
        self.raises(TooMany, full().with_row, "a", 100)
        self.raises(TooMany, full().with_row, "d", 0)

    def test_wrong_rows(self):
        for name in NO_NAMES:
            self.raises(BadName, full().with_row, name, 1000, name=name)
            self.raises(BadName, full().with_row, name, None, name=name)
        for wrong in NO_INTEGERS:
            self.raises(BadMoment, full().with_row, "d", wrong, value=wrong)


class Trials(PastTest):

    def test_deed_gets_the_world_itself_with_more_rows(self):
        world = World({"a": [5]})
        seen = []

        def deed(given):
            seen.append(given is world)
            return given.rows()

        self.same(world.trial({"b": [2, 1], "a": [3, 5], "c": []}, deed), [("a", 3), ("a", 5), ("b", 1), ("b", 2)])
        self.assertEqual(seen, [True])
        self.same(world.rows(), [("a", 5)])

    def test_what_deed_returns_is_returned(self):
        world = World()
        for thing in [None, 0, "x", [1], world]:
            self.assertIs(world.trial({}, lambda given: thing), thing)

    def test_the_dict_stays_as_it_is(self):
        rows = {"b": [2, 1], "a": []}
        held = rows["b"]

        def deed(world):
            world["b"] = [7]
            world |= World({"a": [1]})

        World({"b": [3]}).trial(rows, deed)
        self.assertEqual(rows, {"b": [2, 1], "a": []})
        self.assertIs(rows["b"], held)

    def test_a_dict_that_deed_changes(self):
        rows = {"b": [2, 1]}
        world = World({"b": [9]})

        def deed(given):
            rows["b"].append(5)
            rows["c"] = [1]
            return given.rows()

        self.same(world.trial(rows, deed), [("b", 1), ("b", 2), ("b", 9)])
        self.same(world.rows(), [("b", 9)])

    def test_whatever_deed_does(self):
        def remove(world):
            world["a"] = []
            world["b"] = []

        def replace(world):
            world["a"] = [7, 8]
            world["c"] = [1]

        def join(world):
            world |= World({"a": [100], "z": [1]})

        def nest(world):
            world.trial({"a": [50]}, remove)
            world.trial({"d": [50]}, replace)

        for deed in [remove, replace, join, nest]:
            for rows in [{}, {"a": [2]}, {"a": [1], "b": [3]}]:
                world = World({"a": [1], "b": [4]})
                self.assertIsNone(world.trial(rows, deed))
                self.same(world.rows(), [("a", 1), ("b", 4)])

    def test_an_error_of_deed_is_passed_on(self):
        for error in [KeyError("x"), TooMany(), KeyboardInterrupt(), StopIteration()]:
            world = World({"a": [1]})

            def deed(given):
                given["a"] = []
                given["q"] = [3]
                raise error

            with self.assertRaises(error.__class__) as caught:
                world.trial({"a": [2]}, deed)
            self.assertIs(caught.exception, error)
            self.same(world.rows(), [("a", 1)])

    def test_a_trial_inside_a_trial(self):
        world = World({"a": [1]})

        def inner(given):
            return given.rows()

        def outer(given):
            return [given.trial({"a": [3]}, inner), given.rows()]

        self.same(world.trial({"b": [2]}, outer), [[("a", 1), ("a", 3), ("b", 2)], [("a", 1), ("b", 2)]])
        self.same(world.rows(), [("a", 1)])

    def test_copies_that_deed_makes_stay(self):
        world = World({"a": [1]})
        twin = world.trial({"b": [2]}, lambda given: given.copy())
        self.same(twin.rows(), [("a", 1), ("b", 2)])
        more = world.trial({"b": [2]}, lambda given: given.with_row("a", 5))
        self.same(more.rows(), [("a", 1), ("a", 5), ("b", 2)])
        self.same(world.rows(), [("a", 1)])

    def test_the_limit_holds_in_the_trial(self):
        world = World({"a": list(range(200))})
        rows = {"b": list(range(100))}
        self.same(world.trial(rows, len), 300)
        self.raises(TooMany, world.trial, rows, lambda given: given.with_row("c", 1))
        self.same(len(world), 200)

    def refused(self, kind, world, rows, **values):
        before = world.rows()
        called = []
        self.raises(kind, world.trial, rows, called.append, **values)
        self.assertEqual(called, [])
        self.same(world.rows(), before)

    def test_the_errors_of_the_dict(self):
        world = World({"ab": [1]})
        for wrong in NO_ROWS:
            self.refused(BadRows, world, {"ab": wrong}, name="ab")
        for name in ["", "A", "abcdefghijklm", 5, None, True, ("a",)]:
            self.refused(BadName, world, {"a": [1], name: None}, name=name)
        self.refused(BadRows, world, {"b": [1, 1], "A": [1]}, name="b")
        self.refused(BadName, world, {"A": [1], "b": [1, 1]}, name="A")

    def test_rows_of_300_and_301(self):
        self.same(full().trial({"a": [3, 4], "c": [99]}, len), 300)
        self.refused(TooMany, full(), {"a": [3, 100]})
        self.refused(TooMany, World(), {"a": list(range(301))})
        self.refused(BadName, full(), {"a": [100], "A": []}, name="A")
        self.refused(BadRows, full(), {"a": [100], "b": [1, 1]}, name="b")


class AgainstSets(PastTest):

    def test_many_steps_against_a_set_of_pairs(self):
        chance = random.Random(7)
        names = ["a", "b", "ba"]
        world = World()
        wanted = set()
        for _ in range(600):
            name = chance.choice(names)
            moments = chance.sample(range(-6, 7), chance.randrange(6))
            given = {(name, moment) for moment in moments}
            step = chance.randrange(4)
            if step == 0:
                world[name] = moments
                wanted = {row for row in wanted if row[0] != name} | given
            elif step == 1:
                world |= World({name: moments})
                wanted = wanted | given
            elif step == 2:
                world = world | World.of(sorted(given) * 2)
                wanted = wanted | given
            else:
                self.same(world.trial({name: moments}, World.rows), sorted(wanted | given))
            self.same(world.rows(), sorted(wanted))
            self.same(len(world), len(wanted))
            self.same(world.names(), sorted({row[0] for row in wanted}))
            self.same([row in world for row in sorted(given)], [row in wanted for row in sorted(given)])
            self.assertEqual(world, World.of(list(wanted)))


if __name__ == "__main__":
    unittest.main()
