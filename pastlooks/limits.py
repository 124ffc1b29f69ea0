"""The limits of questions (point 22)."""

from pastlooks.errors import TooMany
from pastlooks.terms import check_term

MOST_LOOKS = 4
MOST_CHOICES = 6


def check_two(one, other):
    """Raise BadTerm unless both are terms, and TooMany if they are too large together."""
    check_term(one)
    check_term(other)
    if one.looks + other.looks > MOST_LOOKS or one.choices + other.choices > MOST_CHOICES:
        raise TooMany()
