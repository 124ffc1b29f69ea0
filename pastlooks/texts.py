"""Terms as texts (points 36 to 38)."""

from pastlooks.checks import LETTERS, MOST_LETTERS
from pastlooks.errors import BadText, TooMany
from pastlooks.lookup import BACKWARD
from pastlooks.terms import MOST_DEPTH, MOST_LOOKS, MOST_PARTS, Either, Later, Look, Now, Shift, check_term

DIGITS = "0123456789"
MOST_DIGITS = 60
BEYOND_DIGITS = 10 ** 60  # the least number of 61 digits

# What a term begins with, and what joins the two parts in brackets.
BEGINNINGS = ("now", "(", "last ", "next ", "later(", "earlier(")
JOINTS = (" + ", " - ", " or ")

LIMITED = "within "
WAYS_BACK = ("at ", "before ")
WAYS_AHEAD = ("since ", "after ")


def spelled(term):
    """The text of the term."""
    check_term(term)
    return written(term)


def written(term):
    """The text of a part of a term."""
    if isinstance(term, Now):
        return "now"
    if isinstance(term, Shift):
        sign = "+" if term.amount > 0 else "-"
        return f"({written(term.moment)} {sign} {written_number(abs(term.amount))})"
    if isinstance(term, Look):
        word = "last" if term.way in BACKWARD else "next"
        limit = "" if term.within is None else f" {LIMITED}{written_number(term.within)}"
        return f"{word} {term.stream}{limit} {term.way} {written(term.moment)}"
    first = written(term.first)
    second = written(term.second)
    if isinstance(term, Either):
        return f"({first} or {second})"
    word = "later" if isinstance(term, Later) else "earlier"
    return f"{word}({first}, {second})"


def written_number(number):
    """The digits of a number from 0 on, or TooMany."""
    if number >= BEYOND_DIGITS:
        raise TooMany()
    return str(number)


def parse(text):
    """The term that the text writes; BadText or TooMany at the first place that is wrong."""
    reader = Reader(text)
    term = reader.read_term(0)
    reader.read_end()
    return term


class Reader:
    """Reads a text from left to right.

    The attribute place is the index of the next character; parts and looks
    count the parts and the looks that have begun.
    """

    def __init__(self, text):
        self.text = text
        self.place = 0
        self.parts = 0
        self.looks = 0

    def read_term(self, inside):
        """The term that begins here, inside so many other parts."""
        if inside >= MOST_DEPTH or self.parts >= MOST_PARTS:
            raise TooMany()
        self.parts = self.parts + 1
        word = self.read_word(BEGINNINGS)
        if word == "now":
            return Now()
        if word == "(":
            return self.read_joined(inside)
        if word == "last ":
            return self.read_look(WAYS_BACK, inside)
        if word == "next ":
            return self.read_look(WAYS_AHEAD, inside)
        return self.read_ordered(word, inside)

    def read_joined(self, inside):
        """What follows a bracket: a shift or one | other."""
        first = self.read_term(inside + 1)
        joint = self.read_word(JOINTS)
        if joint == " or ":
            term = first | self.read_term(inside + 1)
        else:
            amount = self.read_number()
            term = first + amount if joint == " + " else first - amount
        self.read_word((")",))
        return term

    def read_ordered(self, word, inside):
        """What follows the word of later or earlier."""
        first = self.read_term(inside + 1)
        self.read_word((", ",))
        second = self.read_term(inside + 1)
        self.read_word((")",))
        return first.later(second) if word == "later(" else first.earlier(second)

    def read_look(self, ways, inside):
        """What follows the first word of a look, which has one of these ways."""
        self.looks = self.looks + 1
        if self.looks > MOST_LOOKS:
            raise TooMany()
        stream = self.read_row_of(LETTERS, MOST_LETTERS)
        self.read_word((" ",))
        within = None
        word = self.read_word((LIMITED, *ways))
        if word == LIMITED:
            within = self.read_number()
            self.read_word((" ",))
            word = self.read_word(ways)
        return Look(stream, self.read_term(inside + 1), word.strip(), within=within)

    def read_number(self):
        """The number that stands here; if it begins with 0, it is 0."""
        if self.text.startswith("0", self.place):
            self.place = self.place + 1
            return 0
        return int(self.read_row_of(DIGITS, MOST_DIGITS))

    def read_row_of(self, letters, most):
        """At least one and at most so many of these characters, as many as stand here."""
        found = ""
        for letter in self.text[self.place:self.place + most]:
            if letter not in letters:
                break
            found = found + letter
        if not found:
            raise BadText(self.place)
        self.place = self.place + len(found)
        return found

    def read_word(self, words):
        """The one of the words that stands here; none of them begins another one."""
        longest = 0
        for word in words:
            count = common_length(self.text, self.place, word)
            if count == len(word):
                self.place = self.place + count
                return word
            longest = max(longest, count)
        raise BadText(self.place + longest)

    def read_end(self):
        """The end of the text, and nothing ahead of it."""
        if self.place < len(self.text):
            raise BadText(self.place)


def common_length(text, place, word):
    """How many of the word's characters stand in the text from this place on."""
    count = 0
    while count < len(word) and text.startswith(word[count], place + count):
        count = count + 1
    return count
