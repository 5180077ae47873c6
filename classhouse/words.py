"""What single values may be, whichever house they belong to."""

LETTERS = "abcdefghijklmnopqrstuvwxyz"


def is_word(value):
    """Tells whether a value is a word: 1 to 6 of the letters a to z."""
    if not isinstance(value, str) or not 1 <= len(value) <= 6:
        return False
    return all([letter in LETTERS for letter in value])


def is_number(value, most):
    """Tells whether a value is an integer from 0 to most."""
    # True and False would pass as 1 and 0.
    return isinstance(value, int) and not isinstance(value, bool) and 0 <= value <= most


def is_tuple(value, least, most):
    """Tells whether a value is a tuple of so many things."""
    return isinstance(value, tuple) and least <= len(value) <= most


def is_alike(value, known):
    """Tells whether any value is a known one of numbers, strings, None and tuples, and of the same kinds throughout."""
    # True == 1 for Python, also within tuples; only the written forms tell them apart.
    return value == known and repr(value) == repr(known)
