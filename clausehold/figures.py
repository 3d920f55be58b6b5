"""Integers as texts tell them."""

FIGURES = "0123456789"
MOST_FIGURES = 12
# The figures of a piece of a long integer, and the number one above all such.
PIECE_FIGURES = 18
PIECE = 1000000000000000000


def number_told(word):
    """The number that word tells without a needless 0, or None."""
    if len(word) < 1 or len(word) > MOST_FIGURES:
        return None
    if any([sign not in FIGURES for sign in word]):
        return None
    if word[0] == "0" and len(word) > 1:
        return None
    return int(word)


def integer_told(word):
    """The integer that word tells without a needless 0 and without "-0", or None."""
    if not word.startswith("-"):
        return number_told(word)
    number = number_told(word[1:])
    return -number if number else None


def integer_text(value):
    """The figures of an integer of any size, "-" ahead if it is below 0."""
    if value < 0:
        return "-" + integer_text(-value)
    # In pieces, for Python itself tells no integer of more than some thousand figures.
    pieces = []
    while value >= PIECE:
        value, piece = divmod(value, PIECE)
        pieces.append(str(piece).zfill(PIECE_FIGURES))
    pieces.append(str(value))
    return "".join(reversed(pieces))
