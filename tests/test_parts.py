"""Points 7 and 11: the parts of a term, their paths, and changing a part."""

import inspect
import unittest

from pastlooks.errors import BadPath, BadTerm, TooMany
from pastlooks.terms import Earlier, Later, Look, Now, Shift
from pastlooks.worlds import World
from support import BIG, PastTest, deep, look, looks, nested_list, nows

NO_PATHS = [None, 0, 1, True, "", "0", b"\x00", [], [0], {}, {0: 0}, set(), range(1), Now(), World(), nested_list(5000),
            (-1,), (2,), (True,), (False,), (0.0,), (1.0,), ("0",), (None,), ((0,),), ([0],), (BIG,), (-BIG,), (0, -1),
            (0, 2), (0, False), (0, 0.0), (0, None), (0, "0"), (0, [0]), (nested_list(5000),)]


def sample():
    """A term with every kind of part."""
    return (look("a", Now() + 1) - 2).later(look("b").earlier(Now())) | look("c", Now() | look("d"))


class Paths(PastTest):

    def test_the_paths_of_each_kind(self):
        a = look("a")
        for term, paths in [(Now(), [()]), (Now() + 1, [(), (0,)]), (a, [(), (0,)]), (Now() | Now(), [(), (0,), (1,)]),
                            (Now().later(a), [(), (0,), (1,), (1, 0)]), (a.earlier(Now()), [(), (0,), (0, 0), (1,)])]:
            self.same(list(term.part_paths()), paths)

    def test_a_generator(self):
        self.assertTrue(inspect.isgenerator(sample().part_paths()))
        paths = sample().part_paths()
        self.same([next(paths), next(paths), next(paths)], [(), (0,), (0, 0)])

    def test_the_paths_are_ascending(self):
        wanted = [(), (0,), (0, 0), (0, 0, 0), (0, 0, 0, 0), (0, 0, 0, 0, 0), (0, 1), (0, 1, 0), (0, 1, 0, 0), (0, 1, 1),
                  (1,), (1, 0), (1, 0, 0), (1, 0, 1), (1, 0, 1, 0)]
        self.same(list(sample().part_paths()), wanted)
        for term in [sample(), deep(12), looks(12), nows(20) + 1]:
            paths = list(term.part_paths())
            self.assertEqual(paths, sorted(paths))
            self.same(len(paths), term.parts)
            self.same(1 + max(len(path) for path in paths), term.depth)

    def test_each_place_has_a_path_of_its_own(self):
        a = look("a")
        self.same(list((a | a).part_paths()), [(), (0,), (0, 0), (1,), (1, 0)])

    def test_the_part_at_a_path(self):
        a = look("a", Now() + 1)
        b = look("b")
        for term, index, part in [(a, 0, a.moment), (a + 1, 0, a), (a | b, 0, a), (a | b, 1, b), (a.later(b), 0, a),
                                  (a.later(b), 1, b), (a.earlier(b), 0, a), (a.earlier(b), 1, b)]:
            self.assertIs(term.part_at((index,)), part)
            self.assertIs(term.part_at(()), term)
        self.assertEqual(sample().part_at((0, 1)), look("b").earlier(Now()))
        self.assertEqual(sample().part_at((1, 0, 1)), look("d"))
        self.assertEqual(sample().part_at((0, 0, 0, 0)), Now() + 1)

    def test_wrong_paths(self):
        for path in NO_PATHS:
            for term in [sample(), Now(), Now() + 1, look("a"), Now() | Now()]:
                self.raises(BadPath, term.part_at, path, path=path)

    def test_paths_that_lead_out_of_the_term(self):
        for term, path in [(Now(), (0,)), (Now(), (1,)), (Now() + 1, (1,)), (Now() + 1, (0, 0)), (look("a"), (1,)),
                           (Now() | Now(), (2,)), (Now() | Now(), (1, 0)), (deep(12), (0,) * 12),
                           (sample(), (0, 0, 1)), (sample(), (0,) * 100000), (Now() | Now(), (-1,)),
                           (Now() | Now(), (-2,)), (Now() | Now(), (True,)), (Now() | Now(), (False,))]:
            self.raises(BadPath, term.part_at, path, path=path)
            self.raises(BadPath, term.with_part, path, Now(), path=path)


class Changing(PastTest):

    def test_the_empty_path_gives_the_other_term_itself(self):
        other = look("z")
        for term in [Now(), Now() + 1, sample(), deep(12)]:
            self.assertIs(term.with_part((), other), other)

    def test_below_each_kind(self):
        a = look("a", within=4)
        b = look("b")
        z = look("z")
        for term, path, wanted in [
                (a, (0,), look("a", z, within=4)), (look("a", b, "after"), (0,), look("a", z, "after")),
                (look("a", b, "before", within=0), (0, 0), look("a", look("b", z), "before", within=0)),
                (a | b, (0,), z | b), (a | b, (1,), a | z), (a.later(b), (0,), z.later(b)),
                (a.later(b), (1,), a.later(z)), (a.earlier(b), (0,), z.earlier(b)), (a.earlier(b), (1,), a.earlier(z)),
                (a + 3, (0,), z + 3), (a - 3, (0, 0), look("a", z, within=4) - 3)]:
            self.assertEqual(term.with_part(path, z), wanted)

    def test_deep_inside(self):
        changed = sample().with_part((0, 1, 1), look("z"))
        self.assertEqual(changed, (look("a", Now() + 1) - 2).later(look("b").earlier(look("z")))
                         | look("c", Now() | look("d")))
        self.same([changed.parts, changed.depth, changed.looks, changed.choices], [16, 6, 5, 7])

    def test_the_term_stays_as_it_is(self):
        term = sample()
        for path in list(term.part_paths()):
            term.with_part(path, look("z") + 4)
            self.assertEqual(term, sample())

    def test_the_other_term_stands_at_the_path(self):
        term = sample()
        for path in list(term.part_paths()):
            other = look("z")
            changed = term.with_part(path, other)
            self.assertIs(changed.part_at(path), other)
            for kept in list(term.part_paths()):
                if kept != path[:len(kept)] and path != kept[:len(path)]:
                    self.assertEqual(changed.part_at(kept), term.part_at(kept))

    def test_the_same_part_again_gives_an_equal_term(self):
        term = sample()
        for path in list(term.part_paths()):
            self.assertEqual(term.with_part(path, term.part_at(path)), term)

    def test_shifts_are_joined(self):
        a = look("a")
        z = look("z")
        changed = (a + 3).with_part((0,), z + 4)
        self.assertIs(changed.__class__, Shift)
        self.assertIs(changed.moment, z)
        self.same([changed.amount, changed.parts, changed.depth], [7, 3, 3])
        self.same((a + 3).with_part((0,), z - 5).amount, -2)
        changed = look("b", (a + 3) | a).with_part((0, 0, 0), z + 4)
        self.assertEqual(changed, look("b", (z + 7) | a))

    def test_a_shift_whose_amount_becomes_0_vanishes(self):
        a = look("a")
        z = look("z")
        self.assertIs((a + 3).with_part((0,), z - 3), z)
        self.assertIs((a - BIG).with_part((0,), z + BIG), z)
        changed = look("b", (a + 3) | a, within=1).with_part((0, 0, 0), z - 3)
        self.assertEqual(changed, look("b", z | a, within=1))
        changed = (look("b", a + 3) + 3).with_part((0, 0, 0), Now() - 3)
        self.assertEqual(changed, look("b", Now()) + 3)

    def test_a_shift_in_the_place_of_a_shift(self):
        term = look("b", look("a") + 3)
        self.assertEqual(term.with_part((0,), Now() + 4), look("b", Now() + 4))
        self.assertEqual(((look("a") + 3) | Now()).with_part((0,), Now() + 4), (Now() + 4) | Now())

    def test_only_the_part_above_joins(self):
        changed = look("b", look("a") + 3).with_part((0, 0, 0), Now() + 4)
        self.assertEqual(changed, look("b", look("a", Now() + 4) + 3))

    def test_wrong_paths_and_terms(self):
        for path in NO_PATHS:
            self.raises(BadPath, sample().with_part, path, Now(), path=path)
            self.raises(BadPath, sample().with_part, path, 5, path=path)
        for wrong in [None, 0, "now", [Now()], Now, World(), True]:
            for path in [(), (0,), (0, 0, 0)]:
                self.raises(BadTerm, sample().with_part, path, wrong, value=wrong)

    def test_depth_12_and_one_more(self):
        bottom = (0,) * 10
        self.same(deep(11).with_part(bottom, Now() + 1).depth, 12)
        self.same(deep(12).with_part(bottom, Now() + 1).depth, 12)
        self.raises(TooMany, deep(12).with_part, (0,) * 11, Now() + 1)
        self.raises(TooMany, (Now() + 1).with_part, (0,), deep(12))
        self.raises(BadTerm, deep(12).with_part, (0,) * 11, 5, value=5)
        self.raises(BadPath, deep(12).with_part, (0,) * 12, deep(12), path=(0,) * 12)

    def test_depth_where_shifts_are_joined(self):
        term = Now() + 1
        self.same(term.with_part((0,), deep(11) + 2).depth, 12)
        self.assertEqual(term.with_part((0,), deep(11) - 1), deep(11))

    def test_40_parts_and_one_more(self):
        term = nows(20)
        path = max(term.part_paths())
        self.same(term.with_part(path, Now() + 1).parts, 40)
        self.raises(TooMany, term.with_part, path, Now() | Now())
        self.raises(TooMany, (term + 1).with_part, (0,) + path, Now() + 1)

    def test_12_looks_and_one_more(self):
        term = looks(12)
        path = max(term.part_paths())
        self.raises(TooMany, term.with_part, path, look("z"))
        self.same(term.with_part(path[:-1], look("z")).looks, 12)
        self.same(term.with_part(path[:-1], Now()).looks, 11)

    def test_kinds_stay(self):
        a = look("a")
        self.assertIs(a.later(a).with_part((0,), Now()).__class__, Later)
        self.assertIs(a.earlier(a).with_part((0,), Now()).__class__, Earlier)
        self.assertIs(a.with_part((0,), a).__class__, Look)


if __name__ == "__main__":
    unittest.main()
