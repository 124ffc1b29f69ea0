"""The limits of questions (point 22)."""

from pastlooks.errors import TooMany
from pastlooks.terms import check_term

MOST_LOOKS = 4
MOST_CHOICES = 6
MOST_LOOKS_ALONE = 2
MOST_CHOICES_ALONE = 3


def check_two(one, other):
    """Raise BadTerm unless both are terms, and TooMany if they are too large together."""
    check_term(one)
    check_term(other)
    if one.looks + other.looks > MOST_LOOKS or one.choices + other.choices > MOST_CHOICES:
        raise TooMany()


def check_one(term):
    """Raise BadTerm unless this is a term, and TooMany if it is too large for a question of its own."""
    check_term(term)
    if term.looks > MOST_LOOKS_ALONE or term.choices > MOST_CHOICES_ALONE:
        raise TooMany()
