"""Points 2 and 36 to 38: texts of terms."""

import random
import unittest

from pastlooks.errors import BadTerm, BadText, TooMany
from pastlooks.terms import Now
from pastlooks.texts import parse, spelled
from support import BIG, NO_TERMS, WAYS, PastTest, deep, look, looks, nows, random_term, small_terms

MANY = "many"
WORDS = ["at", "before", "since", "after", "within", "last", "next", "now", "or", "later", "earlier", "x",
         "withinwithin", "abcdefghijkl"]


def part(inside):
    return ("part", inside)


def rules(inside):
    """The ways to write a term that lies inside so many others: characters, and tuples for what they do not say."""
    below = part(inside + 1)
    amount = [(*f" {sign} ", ("number", 0), ")") for sign in "+-"]
    yield (*"now",)
    yield (*"(", below, ("one of", (*amount, (*" or ", below, ")"))))
    for word in ("later(", "earlier("):
        yield (*word, below, *", ", below, ")")
    for word, ways in [("last ", ("at ", "before ")), ("next ", ("since ", "after "))]:
        way = ("one of", tuple([(*way, below) for way in ways]))
        yield (*word, ("look",), ("name", 0), " ", ("one of", ((way,), (*"within ", ("number", 0), " ", way))))


def with_more(stack):
    """The stacks, whose last entry comes next, in which a name or a number may have ended, or a way is chosen."""
    top = stack[-1] if stack else None
    if top is None or top[0] != "one of":
        yield stack
    if top is not None and top[0] in ("name", "number") and top[1] > 0:
        yield from with_more(stack[:-1])
    if top is not None and top[0] == "one of":
        for chosen in top[1]:
            yield from with_more((*stack[:-1], *reversed(chosen)))


def taken(stack, letter):
    """What the letter leaves of the stack, or None."""
    top = stack[-1] if stack else None
    if top == letter:
        return stack[:-1]
    if top is not None and top[0] == "name" and letter in "abcdefghijklmnopqrstuvwxyz" and top[1] < 12:
        return (*stack[:-1], ("name", top[1] + 1))
    if top is not None and top[0] == "number" and letter in "0123456789" and top[1] < 60:
        # Behind a 0 that stands first, the number has ended, as if it were full.
        return (*stack[:-1], ("number", 60 if top[1] == 0 and letter == "0" else top[1] + 1))
    return None


def fault(text):
    """Point 38 word by word: None, MANY or the place of BadText. All ways to go on are kept, letter by letter."""
    stacks = {(part(0),)}
    parts = found_looks = 0
    for place in range(len(text) + 1):
        tops = [stack[-1] for stack in stacks if stack]
        if ("look",) in tops:
            found_looks += 1
            if found_looks > 12:
                return MANY
            stacks = {stack[:-1] if stack[-1] == ("look",) else stack for stack in stacks}
        inside = [top[1] for top in tops if top[0] == "part"]
        if inside:
            parts += 1
            if inside[0] >= 12 or parts > 40:
                return MANY
            stacks = {(*stack[:-1], *reversed(rule)) for stack in stacks for rule in rules(inside[0])}
        stacks = {more for stack in stacks for more in with_more(stack)}
        if place == len(text):
            return None if () in stacks else place
        stacks = {left for stack in stacks for left in [taken(stack, text[place])] if left is not None}
        if not stacks:
            return place


def random_text(source, depth):
    """A text of at most this depth, and its term as + and - make it."""
    if depth == 1 or source.randrange(9) == 0:
        return "now", Now()
    text, term = random_text(source, depth - 1)
    kind = source.randrange(6)
    amount = source.choice([0, 0, 1, 2, 3, 10, 10 ** 59, 10 ** 60 - 1])
    if kind < 2:
        if kind:
            return f"({text} + {amount})", term + amount
        return f"({text} - {amount})", term - amount
    if kind == 2:
        name, way = source.choice(["a", "b", *WORDS]), source.choice(WAYS)
        word = "last" if way in ("at", "before") else "next"
        if source.randrange(2):
            return f"{word} {name} {way} {text}", look(name, term, way)
        return f"{word} {name} within {amount} {way} {text}", look(name, term, way, amount)
    other_text, other = random_text(source, source.randint(1, depth - 1))
    if kind == 3:
        return f"({text} or {other_text})", term | other
    if kind == 4:
        return f"later({text}, {other_text})", term.later(other)
    return f"earlier({text}, {other_text})", term.earlier(other)


def small_random_text(source, depth):
    """Such a text that is within all limits."""
    while True:
        try:
            text, term = random_text(source, depth)
        except TooMany:
            continue
        if fault(text) is None:
            return text, term


def flat(texts):
    """These texts, joined by or: one part less than twice as many, if each one is one part."""
    while len(texts) > 1:
        texts = [f"({texts[k]} or {texts[k + 1]})" if k + 1 < len(texts) else texts[k]
                 for k in range(0, len(texts), 2)]
    return texts[0]


class TextTest(PastTest):

    def bad(self, text, place):
        self.raises(BadText, parse, text, place=place)
        self.assertEqual(fault(text), place)

    def many(self, text):
        self.raises(TooMany, parse, text)
        self.assertEqual(fault(text), MANY)

    def good(self, text, term):
        found = parse(text)
        self.assertEqual(found, term)
        self.assertEqual(found.parts, term.parts)
        self.assertIsNone(fault(text))

    def judged(self, text):
        """Whether the text follows the rules; the error is the one of point 38."""
        wanted = fault(text)
        if wanted is None:
            parse(text)
        elif wanted == MANY:
            self.raises(TooMany, parse, text)
        else:
            self.raises(BadText, parse, text, place=wanted)
        return wanted is None


class Spelling(TextTest):

    def both(self, term, text):
        self.same(spelled(term), text)
        self.good(text, term)

    def test_each_kind(self):
        self.both(Now(), "now")
        self.both(Now() + 3, "(now + 3)")
        self.both(Now() - 3, "(now - 3)")
        self.both(look(), "last a at now")
        self.both(look("bc", way="before"), "last bc before now")
        self.both(look(way="since"), "next a since now")
        self.both(look(way="after"), "next a after now")
        self.both(look(within=5), "last a within 5 at now")
        self.both(look(way="before", within=0), "last a within 0 before now")
        self.both(look(way="since", within=10), "next a within 10 since now")
        self.both(look(way="after", within=123), "next a within 123 after now")
        self.both(look() | Now(), "(last a at now or now)")
        self.both(look().later(Now()), "later(last a at now, now)")
        self.both(look().earlier(Now()), "earlier(last a at now, now)")

    def test_the_example(self):
        self.both(look("a", Now() - 3, "at", 5), "last a within 5 at (now - 3)")

    def test_terms_inside_terms(self):
        self.both((look("b", look() + 1, "after") | Now()) - 2, "((next b after (last a at now + 1) or now) - 2)")
        self.both(look("a", Now() | look("b")), "last a at (now or last b at now)")
        self.both(look("a", Now()) | look("b") | Now(), "((last a at now or last b at now) or now)")
        self.both(look("a", Now()) | (look("b") | Now()), "(last a at now or (last b at now or now))")
        self.both(look("a", look("b", way="since").later(Now() + 1), "before", 7).earlier(Now()),
                  "earlier(last a within 7 before later(next b since now, (now + 1)), now)")

    def test_names_that_are_words(self):
        for name in WORDS:
            for way in WAYS:
                for within in (None, 0, 12):
                    term = look(name, look(name, Now(), way, within), way)
                    self.good(spelled(term), term)

    def test_numbers_of_60_digits(self):
        largest = 10 ** 60 - 1
        for term, text in [(Now() + largest, f"(now + {'9' * 60})"), (Now() - largest, f"(now - {'9' * 60})"),
                           (look(within=largest), f"last a within {'9' * 60} at now"),
                           (Now() + 10 ** 59, f"(now + 1{'0' * 59})")]:
            self.both(term, text)

    def test_numbers_of_61_digits(self):
        for number in [10 ** 60, 10 ** 60 + 1, 10 ** 61, BIG]:
            for term in [Now() + number, Now() - number, look(within=number), look("a", Now() + number), Now() | (
                    look() - number), look("a", look(way="since", within=number)) + 1,
                    Now().later(Now().earlier(Now() - number))]:
                self.raises(TooMany, spelled, term)

    def test_wrong_terms(self):
        for wrong in NO_TERMS:
            self.raises(BadTerm, spelled, wrong, value=wrong)

    def test_small_terms(self):
        for term in small_terms():
            self.good(spelled(term), term)

    def test_random_terms(self):
        source = random.Random(101)
        texts = {}
        for _ in range(3000):
            term = random_term(source, source.randint(1, 7), ["a", "b", "at", "within", "abcdefghijkl"], 12)
            text = spelled(term)
            self.good(text, term)
            # Different terms have different texts.
            self.assertEqual(texts.setdefault(text, term), term)
        self.assertGreater(len(texts), 1000)

    def test_the_largest_terms(self):
        for term in [deep(12), looks(12), nows(20), nows(20) + 1, looks(12) | nows(2), deep(11) - 1, nows(20) - 1]:
            self.good(spelled(term), term)

    def test_the_term_stays(self):
        term = look("a", Now() - 3, "at", 5)
        spelled(term)
        self.assertEqual(term, look("a", Now() - 3, "at", 5))


class Reading(TextTest):

    def test_shifts_directly_inside_each_other(self):
        self.good("((now + 3) + 4)", Now() + 7)
        self.good("((now + 3) - 4)", Now() - 1)
        self.good("((now + 3) - 3)", Now())
        self.good("((now - 3) + 3)", Now())
        self.good("(((last a at now - 3) + 4) - 1)", look())
        self.good("last a at ((now + 1) + 1)", look("a", Now() + 2))
        self.good("((((now + 1) + 1) - 1) - 1)", Now())

    def test_shifts_by_0(self):
        self.good("(now + 0)", Now())
        self.good("(now - 0)", Now())
        self.good("((now + 3) - 0)", Now() + 3)
        self.good("((now + 0) - 3)", Now() - 3)
        self.good("(last a within 0 at (now - 0) + 0)", look(within=0))

    def test_numbers(self):
        for number in [0, 1, 9, 10, 11, 100, 105, 10 ** 20, 10 ** 59, 10 ** 60 - 1]:
            self.good(f"(now + {number})", Now() + number)
            self.good(f"(now - {number})", Now() - number)
            self.good(f"last a within {number} at now", look(within=number))
            self.same(parse(f"last a within {number} at now").within, number)

    def test_numbers_with_needless_zeros(self):
        for text, place in [("(now + 00)", 8), ("(now + 01)", 8), ("(now - 007)", 8), ("(now + 0", 8), ("(now + 0 )", 8),
                            ("last a within 00 at now", 15), ("last a within 05 at now", 15),
                            ("last a within 0at now", 15), ("(now + 0" + "0" * 70, 8)]:
            self.bad(text, place)

    def test_numbers_of_60_and_61_digits(self):
        for digit in "123456789":
            for digits in [digit * 60, digit + "0" * 59]:
                self.good(f"(now + {digits})", Now() + int(digits))
                self.bad(f"(now + {digits}", 67)
                self.bad(f"(now + {digits}0)", 67)
                self.bad(f"(now - {digits}{digits})", 67)
                self.good(f"last a within {digits} at now", look(within=int(digits)))
                self.bad(f"last a within {digits}1 at now", 74)
        self.bad("(now + " + "7" * 59, 66)
        self.bad("(now + " + "7" * 100000, 67)

    def test_no_numbers(self):
        for text, place in [("(now + )", 7), ("(now + -1)", 7), ("(now + +1)", 7), ("(now + 1.0)", 8), ("(now + 1_0)", 8),
                            ("(now +  1)", 7), ("(now + 1 )", 8), ("(now + a)", 7), ("(now + 1a)", 8), ("(now + ", 7),
                            ("(now + \u0663)", 7), ("(now + 1\u0663)", 8), ("(now + \u00b2)", 7), ("(now + \uff11)", 7),
                            ("last a within at now", 14), ("last a within  at now", 14), ("last a within x at now", 14),
                            ("last a within -1 at now", 14), ("last a within 5", 15), ("last a within 5x at now", 15),
                            ("last a within 5  at now", 16), ("last a within \u0665 at now", 14)]:
            self.bad(text, place)

    def test_names_of_12_and_13_letters(self):
        self.good("last abcdefghijkl at now", look("abcdefghijkl"))
        self.bad("last abcdefghijklm at now", 17)
        self.bad("last abcdefghijkl", 17)
        self.bad("last abcdefghijk", 16)
        self.bad("last abcdefghijklm", 17)
        self.bad("last " + "a" * 100000, 17)
        self.bad("next " + "a" * 13 + " within", 17)
        for letter in "abcdefghijklmnopqrstuvwxyz":
            self.good(f"next {letter} since now", look(letter, way="since"))

    def test_no_names(self):
        for text, place in [("last  at now", 5), ("last A at now", 5), ("last aB at now", 6), ("last a1 at now", 6),
                            ("last 1 at now", 5), ("last a_ at now", 6), ("last \u00e9 at now", 5), ("last a, at now", 6),
                            ("last \u0430 at now", 5), ("last a\u00df at now", 6), ("last (now) at now", 5),
                            ("last a\nat now", 6), ("last a\tat now", 6), ("last", 4), ("last ", 5), ("last a", 6)]:
            self.bad(text, place)

    def test_words_that_begin_as_others(self):
        for text, place in [
                ("next abc at now", 10), ("last a after now", 8), ("last a since now", 7), ("next a before now", 7),
                ("next a at now", 8), ("last a with 5 at now", 11), ("last a within5 at now", 13),
                ("last a within 5 within 5 at now", 16), ("last a within 5 after now", 17), ("last a within 5 since now",
                                                                                             16),
                ("next a within 5 at now", 17), ("next a within 5 before now", 16), ("last at now", 8),
                ("last a a at now", 8), ("last a at at now", 10), ("last at at now", None), ("last within at now", None),
                ("last within within 3 at now", None), ("last within within at now", 19),
                ("last now at now", None), ("last or at now", None), ("next after after now", None),
                ("later(now, now)", None), ("latest a at now", 4), ("late", 4), ("la", 2), ("lasted a at now", 4),
                ("last a at nowhere", 13), ("ne", 2), ("no", 2), ("none", 2), ("not", 2), ("nexta", 4), ("nowa", 3),
                ("earl(now, now)", 4), ("early", 4), ("earlier now", 7), ("later now", 5), ("later (now, now)", 5),
                ("(now orb now)", 7), ("(now onow)", 6), ("(now ornow)", 7), ("(now or now now)", 11), ("(now o", 6)]:
            if place is None:
                self.assertIsNone(fault(text))
                self.assertEqual(spelled(parse(text)), text)
            else:
                self.bad(text, place)

    def test_blanks(self):
        for text, place in [
                (" now", 0), ("now ", 3), ("now\n", 3), ("\nnow", 0), ("( now + 1)", 1), ("(now  + 1)", 5),
                ("(now +1)", 6), ("(now+ 1)", 4), ("(now+1)", 4), ("(now + 1) ", 9), ("(now or  now)", 8),
                ("(now  or now)", 5), ("later( now, now)", 6), ("later(now,now)", 10), ("later(now , now)", 9),
                ("later(now,  now)", 11), ("later(now, now )", 14), ("last  a at now", 5), ("last a  at now", 7),
                ("last a at  now", 10), ("last a\u00a0at now", 6), ("last a at now ", 13), ("", 0), (" ", 0)]:
            self.bad(text, place)

    def test_brackets(self):
        for text, place in [
                ("(now)", 4), ("()", 1), ("((now + 1)", 10), ("(now + 1))", 9), ("(now, now)", 4), ("[now + 1]", 0),
                ("later(now)", 9), ("later(now, now", 14), ("later(now, now, now)", 14), ("later()", 6), ("now)", 3),
                ("(now + now)", 7), ("(now - now)", 7), ("(now * 2)", 5), ("(now or now or now)", 11), ("now + 1", 3),
                ("now or now", 3), ("(1 + now)", 1), ("last a at (now)", 14), ("earlier(now, (now))", 17),
                ("later(now + 1, now)", 9), ("(now or now + 1)", 11), ("last a at now + 1", 13), ("later(now or now)", 9)]:
            self.bad(text, place)

    def test_the_examples(self):
        self.bad("last a at later(now", 19)
        self.bad("next abc at now", 10)

    def test_other_texts(self):
        for text in ["Now", "NOW", "x", "0", "5", "-1", "$", "\0", "\u00e9", "None", ")", ",", "or", "at now", "within"]:
            self.bad(text, 0)

    def test_texts_that_end_at_each_place(self):
        for text in ["now", "(now + 105)", "(now - 0)", "last abc at now", "last b within 120 before (now - 7)",
                     "next x since later(now, now)", "next within within 0 after now", "(now or last a at now)",
                     "earlier((now + 1), (now or now))", "later(earlier(now, now), last abcdefghijkl at now)"]:
            self.assertTrue(self.judged(text))
            for place in range(len(text)):
                self.bad(text[:place], place)

    def test_a_character_behind_a_whole_text(self):
        for text in ["now", "(now + 1)", "last a at now", "(now or now)", "later(now, now)", spelled(deep(12)),
                     spelled(looks(12)), spelled(nows(20) + 1)]:
            for more in [" ", "x", "0", ")", "(", ",", "\n", "\0", "now", " or now", text, "l" * 100000]:
                self.bad(text + more, len(text))

    def test_random_texts(self):
        source = random.Random(102)
        for _ in range(1500):
            text, term = small_random_text(source, source.randint(1, 6))
            self.good(text, term)

    def test_one_character_changed(self):
        source = random.Random(103)
        letters = "nowlastexrti()+-,0123456789 abz\u00e9\n"
        good = 0
        for _ in range(600):
            text = small_random_text(source, source.randint(1, 5))[0]
            for _ in range(12):
                place = source.randrange(len(text) + 1)
                letter = source.choice(letters)
                behind = text[place + source.choice([0, 1]):]
                good += self.judged(text[:place] + source.choice([letter, letter, ""]) + behind)
        self.assertGreater(good, 100)

    def test_pieces_put_together(self):
        source = random.Random(104)
        words = ["now", "(", ")", " ", "last ", "next ", "later(", "earlier(", ", ", " + ", " - ", " or ", "a", "at ",
                 "before ", "since ", "after ", "within ", "0", "5", "12", "last a at ", "next b within 3 since "]
        good = 0
        for _ in range(6000):
            good += self.judged("".join(source.choice(words) for _ in range(source.randint(1, 8))))
        self.assertGreater(good, 20)


class Limits(TextTest):

    def at_this_place(self, text, fits):
        """A part that begins behind this text is too much, whatever stands there; with fits as its end, less is not."""
        for more in ["now", "", "x", "(", "(now + 1)", "last a at now", " now", "\n", "now x", "now" * 1000, "now)))",
                     "last ", "last A", "(x", "\u00e9"]:
            self.many(text + more)
        # What is wrong ahead of this place is met first.
        for place in range(len(text)):
            self.bad(text[:place], place)
            self.bad(text[:place] + "$" + text[place:], place)
            self.bad(text[:place] + "$", place)
        self.assertIsNone(fault(fits))
        parse(fits)

    def test_parts_inside_12_others(self):
        self.at_this_place("(" * 12, "(" * 11 + "now" + " + 1)" * 11)
        self.at_this_place("last a at " * 12, "last a at " * 11 + "now")
        self.at_this_place("later(" * 12, "later(" * 11 + "now" + ", now)" * 11)
        self.at_this_place("earlier(now, " * 11 + "earlier(", "earlier(now, " * 11 + "now" + ")" * 11)
        self.at_this_place("next a within 5 since (" * 6, "(" + "next a within 5 since (" * 5 + "now" + " - 1)" * 6)
        self.at_this_place("(now or " * 11 + "(", "(now or " * 11 + "now" + ")" * 11)

    def test_parts_inside_13_others(self):
        for text in ["(" * 13, "last a at " * 13 + "now", "later(" * 13 + "now", "(" * 13 + "now" + " + 1)" * 13]:
            self.many(text)
        # The twelfth bracket is met first, then the wrong character behind it does not count.
        self.many("(" * 12 + "$" + "(" * 5)
        self.bad("(" * 11 + "$" + "(" * 5, 11)

    def test_shifts_count_as_they_stand_in_the_text(self):
        self.good("(" * 11 + "now" + " + 1)" * 11, Now() + 11)
        self.good("(" * 11 + "now" + " + 0)" * 11, Now())
        self.many("(" * 12 + "now" + " + 1)" * 12)
        self.many("(" * 12 + "now" + " + 0)" * 12)
        # As a term it would be much smaller.
        self.good("(((now + 1) - 1) or now)", Now() | Now())

    def test_a_deep_part_that_stands_late(self):
        first = "last b at " * 10 + "now"
        self.at_this_place(f"later({first}, " + "(" * 11, f"later({first}, " + "(" * 10 + "now" + " + 1)" * 10 + ")")

    def test_the_41st_part(self):
        # 40 parts: 20 times now, 19 times or, and a shift around all of them.
        whole = spelled(nows(20) + 1)
        self.good(whole, nows(20) + 1)
        place = whole.rindex("now")
        self.at_this_place(whole[:place] + "(", whole)
        self.at_this_place(whole[:place] + "last a at ", whole)
        self.many(whole[:place] + "(now + 1)" + whole[place + 3:])
        # One more bracket around it, and two parts of 39 parts each.
        self.many(f"({whole} + 1)")
        self.many(f"({whole}")
        half = spelled(nows(20))
        self.at_this_place(f"({half} or ", f"({half} + 1)")
        self.bad(whole + " or", len(whole))

    def test_40_parts_of_each_kind(self):
        for inner, count in [("now", 1), ("(now + 0)", 2), ("last a at now", 2), ("later(now, now)", 3),
                             ("earlier(now, now)", 3)]:
            text = flat([inner] + ["now"] * 15)
            parts = 30 + count
            rest = 39 - parts
            self.assertIsNone(fault(flat([inner] + ["now"] * (15 + rest // 2))))
            many = flat([inner] + ["now"] * (16 + (rest + 1) // 2))
            self.many(many)
            self.judged(text)

    def test_the_13th_look(self):
        twelve = flat(["last a at now"] * 12)
        self.good(twelve, looks(12))
        thirteen = flat(["last a at now"] * 13)
        self.many(thirteen)
        place = thirteen.rindex("last")
        for word in ["last ", "next "]:
            for more in ["a at now", "", "A", " ", "a", "a at ", "within", "a x", "\u00e9", "a" * 100000, "0"]:
                self.many(thirteen[:place] + word + more)
            # Before the blank it is no look yet.
            for count in range(5):
                self.bad(thirteen[:place] + word[:count], place + count)
                self.bad(thirteen[:place] + word[:count] + "$", place + count)
                self.bad(thirteen[:place] + word[:count] + "$ a at now", place + count)
        self.assertIsNone(fault(thirteen[:place] + "now" + thirteen[place + len("last a at now"):]))
        parse(thirteen[:place] + "now" + thirteen[place + len("last a at now"):])

    def test_looks_inside_looks(self):
        text = "(" + "last a at " * 10 + "now or " + "next b since " * 2
        self.judged(text + "now)")
        self.assertIsNone(fault(text + "now)"))
        self.many(text + "last ")
        self.bad(text + "last", len(text) + 4)

    def test_many_random_texts_beyond_the_limits(self):
        source = random.Random(105)
        found = {True: 0, False: 0}
        while found[True] < 150:
            count = source.randint(10, 24)
            inner = [source.choice(["now", "last a at now", "(now + 3)", "next b within 2 after (now - 1)"])
                     for _ in range(count)]
            text = flat(inner)
            for _ in range(source.randint(0, 6)):
                text = source.choice([f"({text} - 0)", f"last a at {text}", f"later({text}, now)", f"(now or {text})"])
            place = source.randrange(len(text))
            for made in [text, text[:place], text[:place] + "$" + text[place:]]:
                found[fault(made) == MANY] += 1
                self.judged(made)
        self.assertGreater(found[False], 100)

    def test_very_long_and_very_deep_texts(self):
        many = 10 ** 6
        for text in ["(" * many, "later(" * many, "last a at " * many, "earlier(now, " * many, "(now or " * many,
                     "(" * many + "now" + " + 1)" * many]:
            self.raises(TooMany, parse, text)
        for text, place in [("now" + " " * many, 3), ("now" * many, 3), ("x" * many, 0), (" " * many, 0),
                            ("last " + "a" * many, 17), ("(now + " + "9" * many, 67), ("(now + " + "0" * many, 8),
                            ("(now" + ")" * many, 4), ("last a within " + "1" * many, 74), (")" * many, 0),
                            ("later(now, now)" + ")" * many, 15)]:
            self.raises(BadText, parse, text, place=place)


if __name__ == "__main__":
    unittest.main()
