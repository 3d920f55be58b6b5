"""Integers as texts tell them."""

FIGURES = "0123456789"
MOST_FIGURES = 12


def number_told(word):
    """The number that word tells without a needless 0, or None."""
    if len(word) < 1 or len(word) > MOST_FIGURES:
        return None
    if any([sign not in FIGURES for sign in word]):
        return None
    if word[0] == "0" and len(word) > 1:
        return None
    return int(word)


def integer_told(word):
    """The integer that word tells without a needless 0 and without "-0", or None."""
    if not word.startswith("-"):
        return number_told(word)
    number = number_told(word[1:])
    return -number if number else None
