"""Points 4, 6 and 8 to 10: making terms, their sizes, equality and streams."""

import inspect
import unittest

from pastlooks import terms
from pastlooks.errors import BadBound, BadMoment, BadName, BadTerm, BadWay, TooMany
from pastlooks.terms import Earlier, Either, Later, Look, Now, Shift, Stream, Term
from pastlooks.worlds import World
from support import BIG, NO_INTEGERS, NO_NAMES, PastTest, deep, look, looks, nested_list, nows

WAYS = ["at", "before", "since", "after"]
NO_TERMS = [None, 0, 1, True, "now", "a", b"", [], [Now()], (), (Now(),), {}, set(), World(), Now, Term, object(), len]
NO_BOUNDS = [-1, -BIG, True, False, 1.0, 0.0, "1", b"", [], [1], (), {}, World(), Now(), int]
NO_WAYS = ["", "a", "At", "at ", "AT", "last", "next", "within", b"at", None, 0, 1, True, [], ["at"], ("at",),
           {"at": 1}, {"at"}, Now(), str]


def sizes(term):
    return [term.depth, term.parts, term.looks, term.choices]


def one_of_each():
    """Terms that all differ from one another."""
    a = look("a")
    b = look("b")
    return [Now(), Now() + 1, Now() - 1, Now() + 2, a, b, a + 1, a - 1, look("a", way="before"), look("a", way="since"),
            look("a", way="after"), look("a", within=0), look("a", within=1), look("a", within=5), look("b", within=5),
            look("a", Now() + 1), look("a", b), look("a", a), look("b", a), a | b, b | a, a | a, a.later(b), b.later(a),
            a.earlier(b), b.earlier(a), a.later(a), a.earlier(a), (a | b) | a, a | (b | a), (a | b) + 1, Now() | Now(),
            Now().later(Now()), Now().earlier(Now()), a | Now(), Now() | a, look("aa"), look("a", within=BIG)]


class Making(PastTest):

    def test_the_classes(self):
        self.assertEqual(Term.__module__, "pastlooks.terms")
        for kind in [Now, Shift, Look, Either, Later, Earlier]:
            self.assertEqual(kind.__bases__, (Term,))
            self.assertEqual(kind.__module__, "pastlooks.terms")
        self.assertEqual(Stream.__module__, "pastlooks.terms")
        self.assertEqual(terms.told.__module__, "pastlooks.terms")

    def test_the_methods_stand_in_their_classes(self):
        for name in ["__add__", "__sub__", "__or__", "later", "earlier", "__eq__", "__call__", "streams", "part_paths",
                     "part_at", "with_part"]:
            self.assertIn(name, vars(Term))
        for name in ["limit", "limit_to", "at", "before", "since", "after"]:
            self.assertIn(name, vars(Stream))
        self.assertIsInstance(vars(Stream)["limit"], property)

    def test_arguments_by_keyword(self):
        self.assertEqual(inspect.getfullargspec(Look.__init__).kwonlyargs, ["within"])
        self.assertEqual(inspect.getfullargspec(Stream.__init__).kwonlyargs, ["limit"])
        with self.assertRaises(TypeError):
            Look("a", Now(), "at", 5)

    def test_the_kinds(self):
        a = look("a")
        b = look("b")
        for term, kind in [(Now(), Now), (Now() + 1, Shift), (Now() - 1, Shift), (a, Look), (a | b, Either),
                           (a.later(b), Later), (a.earlier(b), Earlier)]:
            self.assertIs(term.__class__, kind)

    def test_the_attributes_of_a_look(self):
        moment = Now() + 1
        for way in WAYS:
            term = Look("abc", moment, way)
            self.assertIs(term.moment, moment)
            self.same([term.stream, term.way, term.within], ["abc", way, None])
        for within in [None, 0, 1, 7, BIG]:
            self.same(Look("a", moment, "at", within=within).within, within)

    def test_the_attributes_of_a_shift(self):
        a = look("a")
        for amount in [1, -1, 5, BIG, -BIG]:
            self.assertIs((a + amount).moment, a)
            self.same((a + amount).amount, amount)
            self.assertIs((a - amount).moment, a)
            self.same((a - amount).amount, -amount)

    def test_first_and_second(self):
        a = look("a")
        b = look("b")
        for term in [a | b, a.later(b), a.earlier(b)]:
            self.assertIs(term.first, a)
            self.assertIs(term.second, b)

    def test_names_of_a_look(self):
        for name in ["a", "z", "now", "abcdefghijkl"]:
            self.same(Look(name, Now(), "at").stream, name)
        for name in NO_NAMES:
            self.raises(BadName, Look, name, Now(), "at", name=name)

    def test_wrong_arguments_of_a_look(self):
        for wrong in NO_TERMS:
            self.raises(BadTerm, Look, "a", wrong, "at", value=wrong)
        for wrong in NO_WAYS:
            self.raises(BadWay, Look, "a", Now(), wrong, way=wrong)
        for wrong in NO_BOUNDS:
            self.raises(BadBound, lambda: Look("a", Now(), "at", within=wrong), value=wrong)

    def test_the_order_of_the_errors_of_a_look(self):
        self.raises(BadName, lambda: Look("A", 1, "x", within=-1), name="A")
        self.raises(BadTerm, lambda: Look("a", 1, "x", within=-1), value=1)
        self.raises(BadWay, lambda: Look("a", deep(12), "x", within=-1), way="x")
        self.raises(BadBound, lambda: Look("a", deep(12), "at", within=-1), value=-1)
        self.raises(TooMany, lambda: Look("a", deep(12), "at", within=1))

    def test_wrong_terms_beside_a_term(self):
        for term in [Now(), look("a"), Now() + 1, deep(12)]:
            for wrong in NO_TERMS:
                self.raises(BadTerm, lambda: term | wrong, value=wrong)
                self.raises(BadTerm, term.later, wrong, value=wrong)
                self.raises(BadTerm, term.earlier, wrong, value=wrong)

    def test_wrong_errors_values_may_be_deep(self):
        wrong = nested_list(5000)
        self.raises(BadTerm, Now().later, wrong, value=wrong)
        self.raises(BadMoment, lambda: Now() + wrong, value=wrong)


class Shifts(PastTest):

    def test_a_shift_by_0_is_the_term_itself(self):
        for term in [Now(), look("a"), Now() + 3, look("a") | Now(), deep(12), nows(20)]:
            self.assertIs(term + 0, term)
            self.assertIs(term - 0, term)

    def test_shifts_are_joined(self):
        a = look("a")
        for term, amount in [(a + 1 + 2, 3), (a + 5 - 2, 3), (a - 5 + 2, -3), (a - 1 - 2, -3), (a + BIG - 1, BIG - 1),
                             (a + 1 + 1 + 1 - 2, 1)]:
            self.assertIs(term.__class__, Shift)
            self.assertIs(term.moment, a)
            self.same(term.amount, amount)

    def test_a_shift_whose_sum_is_0_vanishes(self):
        for inner in [Now(), look("a"), look("a") | Now(), deep(11)]:
            self.assertIs(inner + 3 - 3, inner)
            self.assertIs(inner - 3 + 3, inner)
            self.assertIs(inner + BIG - BIG, inner)
            self.assertIs(inner + 1 + 2 - 3, inner)

    def test_a_joined_shift_leaves_the_old_one_as_it_is(self):
        old = look("a") + 3
        old + 4
        old - 3
        self.same([old.amount, old.depth, old.parts], [3, 3, 3])

    def test_shifts_that_do_not_stand_directly_inside_each_other_stay(self):
        term = look("a", Now() + 3) - 3
        self.same([term.amount, term.moment.moment.amount], [-3, 3])
        term = ((Now() + 3) | look("a")) - 3
        self.same([term.amount, term.moment.first.amount], [-3, 3])

    def test_wrong_amounts(self):
        for term in [Now(), Now() + 1, look("a"), deep(12)]:
            for wrong in [*NO_INTEGERS, Now(), Now() + 1]:
                self.raises(BadMoment, lambda: term + wrong, value=wrong)
                self.raises(BadMoment, lambda: term - wrong, value=wrong)


class Sizes(PastTest):

    def test_sizes_of_each_kind(self):
        a = look("a")
        for term, wanted in [
                (Now(), [1, 1, 0, 0]), (Now() + 1, [2, 2, 0, 0]), (a, [2, 2, 1, 1]), (a - 1, [3, 3, 1, 1]),
                (a | Now(), [3, 4, 1, 1]), (Now() | a, [3, 4, 1, 1]), (a.later(Now()), [3, 4, 1, 2]),
                (Now().later(a), [3, 4, 1, 2]), (a.earlier(a), [3, 5, 2, 3]), (look("b", a), [3, 3, 2, 2]),
                (Now() | Now(), [2, 3, 0, 0]), (Now().later(Now()), [2, 3, 0, 1]),
                (Now().earlier(Now()), [2, 3, 0, 1]), (look("b", a + 2).earlier(a | Now()) + 1, [6, 10, 3, 4])]:
            self.same(sizes(term), wanted)

    def test_each_place_counts_by_itself(self):
        a = look("a")
        twice = a | a
        self.same(sizes(twice.later(twice)), [4, 11, 4, 5])

    def test_depth_12_and_one_more(self):
        self.same(deep(12).depth, 12)
        self.same((deep(11) + 1).depth, 12)
        self.same((deep(11) | Now()).depth, 12)
        self.same((Now() | deep(11)).depth, 12)
        for way in WAYS:
            self.raises(TooMany, Look, "a", deep(12), way)
        for make in [lambda: deep(12) + 1, lambda: deep(12) - 1, lambda: deep(12) | Now(), lambda: Now() | deep(12),
                     lambda: deep(12).later(Now()), lambda: Now().later(deep(12)), lambda: deep(12).earlier(Now()),
                     lambda: Now().earlier(deep(12))]:
            self.raises(TooMany, make)

    def test_depth_of_a_joined_shift(self):
        term = deep(11) + 1
        self.same([(term + 1).depth, (term - 2).amount], [12, -1])
        self.assertEqual(term - 1, deep(11))

    def test_40_parts_and_one_more(self):
        term = nows(20)
        self.same(term.parts, 39)
        self.same((term + 1).parts, 40)
        self.same(look("a", term).parts, 40)
        self.raises(TooMany, lambda: term | Now())
        self.raises(TooMany, lambda: Now().later(term))
        self.raises(TooMany, lambda: Now().earlier(term))
        self.raises(TooMany, lambda: look("a", term + 1))
        self.raises(TooMany, lambda: look("a", term) + 1)
        self.same((nows(10) | (nows(10) + 1)).parts, 40)
        self.raises(TooMany, lambda: (nows(10) + 1) | (nows(10) + 1))

    def test_12_looks_and_one_more(self):
        self.same([looks(12).looks, looks(12).parts], [12, 35])
        self.raises(TooMany, lambda: looks(12) | look("b"))
        self.raises(TooMany, lambda: look("b").later(looks(12)))
        self.raises(TooMany, lambda: look("b").earlier(looks(12)))
        self.raises(TooMany, lambda: look("b", looks(12)))
        self.same((looks(6) | looks(6, "b")).looks, 12)
        self.raises(TooMany, lambda: looks(7) | looks(6))

    def test_other_choices_have_no_limit_of_their_own(self):
        term = Now()
        for _ in range(9):
            term = term.later(Now())
        self.same(sizes(term), [10, 19, 0, 9])
        self.same(sizes(term | term), [11, 39, 0, 18])

    def test_too_many_comes_last(self):
        self.raises(BadTerm, lambda: deep(12) | 5, value=5)
        self.raises(BadMoment, lambda: deep(12) + "1", value="1")
        self.raises(BadMoment, lambda: deep(12) - True, value=True)


class Equality(PastTest):

    def test_terms_of_the_same_making_are_equal(self):
        for one, other in zip(one_of_each(), one_of_each()):
            self.assertIsNot(one, other)
            self.assertIs(one == other, True)
            self.assertIs(one != other, False)

    def test_all_others_differ(self):
        many = one_of_each()
        for k, one in enumerate(many):
            for n, other in enumerate(many):
                self.assertIs(one == other, k == n, (k, n))
                self.assertIs(one != other, k != n, (k, n))

    def test_a_difference_deep_inside(self):
        self.assertEqual(deep(12), deep(12))
        changed = deep(12).with_part((0,) * 10, Look("b", Now(), "since"))
        self.assertNotEqual(deep(12), changed)

    def test_a_term_is_not_equal_to_anything_else(self):
        for thing in [*NO_TERMS, "Now()", ("now",), 0]:
            for term in [Now(), Now() + 1, look("a")]:
                self.assertIs(term == thing, False)
                self.assertIs(thing == term, False)
                self.assertIs(term != thing, True)

    def test_big_integers(self):
        self.assertEqual(Now() + BIG, Now() + (BIG - 1) + 1)
        self.assertNotEqual(Now() + BIG, Now() + (BIG + 1))


class Streams(PastTest):

    def test_each_way(self):
        stream = Stream("abc", limit=4)
        moment = Now() + 1
        for way, make in [("at", stream.at), ("before", stream.before), ("since", stream.since),
                          ("after", stream.after)]:
            term = make(moment)
            self.assertIs(term.__class__, Look)
            self.assertIs(term.moment, moment)
            self.same([term.stream, term.way, term.within], ["abc", way, 4])

    def test_name_and_limit(self):
        stream = Stream("abc")
        self.same([stream.name, stream.limit], ["abc", None])
        for limit in [None, 0, 1, BIG]:
            self.same(Stream("a", limit=limit).limit, limit)

    def test_the_limit_at_the_time_of_the_call(self):
        stream = Stream("a")
        one = stream.at(Now())
        stream.limit = 3
        two = stream.before(Now())
        self.assertIsNone(stream.limit_to(0))
        three = stream.since(Now())
        stream.limit_to(None)
        four = stream.after(Now())
        self.same([one.within, two.within, three.within, four.within], [None, 3, 0, None])
        self.assertIsNone(stream.limit)

    def test_streams_have_limits_of_their_own(self):
        one = Stream("a", limit=1)
        other = Stream("a", limit=2)
        one.limit = 5
        self.same([one.limit, other.limit], [5, 2])

    def test_wrong_names(self):
        for name in NO_NAMES:
            self.raises(BadName, Stream, name, name=name)
        self.raises(BadName, lambda: Stream("A", limit=-1), name="A")

    def test_wrong_limits(self):
        for wrong in NO_BOUNDS:
            self.raises(BadBound, lambda: Stream("a", limit=wrong), value=wrong)
            for before in [None, 0, 4]:
                stream = Stream("a", limit=before)
                self.raises(BadBound, setattr, stream, "limit", wrong, value=wrong)
                self.raises(BadBound, stream.limit_to, wrong, value=wrong)
                self.same(stream.limit, before)
                self.same(stream.at(Now()).within, before)

    def test_wrong_moments(self):
        stream = Stream("a", limit=4)
        for wrong in NO_TERMS:
            for make in [stream.at, stream.before, stream.since, stream.after]:
                self.raises(BadTerm, make, wrong, value=wrong)

    def test_a_look_that_is_too_deep(self):
        for make in [Stream("a").at, Stream("a").before, Stream("a").since, Stream("a").after]:
            self.raises(TooMany, make, deep(12))


class StreamsOfATerm(PastTest):

    def test_ascending_and_without_duplicates(self):
        term = look("ba", look("b", look("aa")) + 1) | look("b").later(look("aa").earlier(look("z")))
        self.same(term.streams(), ["aa", "b", "ba", "z"])

    def test_terms_without_looks(self):
        self.same(Now().streams(), [])
        self.same((Now().later(Now() + 1) | Now()).streams(), [])

    def test_each_kind_of_place(self):
        b = look("b")
        for term in [b, b + 1, look("b", Now() - 2), look("b", b), b | Now(), Now() | b, b.later(Now()), Now().later(b),
                     b.earlier(Now()), Now().earlier(b)]:
            self.same(term.streams(), ["b"])

    def test_each_list_is_new(self):
        term = look("b")
        term.streams().append("c")
        self.same(term.streams(), ["b"])


if __name__ == "__main__":
    unittest.main()
