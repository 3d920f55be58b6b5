"""Texts of values that are made of tuples, integers and words."""

from clausehold.errors import InvalidText
from clausehold.figures import FIGURES, integer_text, integer_told

WORD_SIGNS = "abcdefghijklmnopqrstuvwxyz "
MARK = '"'
MOST_DEEP = 60


def told(value):
    """The text of a value."""
    if isinstance(value, str):
        return MARK + value + MARK
    if not isinstance(value, tuple):
        return integer_text(value)
    parts = ",".join([told(part) for part in value])
    return f"({parts},)" if len(value) == 1 else f"({parts})"


def untold(text):
    """The value whose text this is."""
    value, at = value_in(text)
    if value is None:
        raise InvalidText(text, at)
    return value


def value_in(text):
    """The pair of the value whose text this is and the text's length, or of None and the place where it goes wrong."""
    reading = Reading(text)
    value = reading.take_value(0)
    return (value if reading.at == len(text) else None), reading.at


class Reading:
    """A text that is read from its first sign on; what takes a value gives None where it goes wrong."""

    def __init__(self, text):
        self.text = text
        self.at = 0

    def takes(self, sign):
        """Takes the sign if it comes next; whether it does."""
        if not self.text.startswith(sign, self.at):
            return False
        self.at += 1
        return True

    def take_value(self, deep):
        """The value that comes next, within so many tuples."""
        sign = self.text[self.at:self.at + 1]
        if sign == MARK:
            return self.take_word()
        if sign == "(":
            return self.take_tuple(deep + 1)
        return self.take_integer()

    def take_integer(self):
        """The integer that comes next."""
        end = self.at
        while end < len(self.text) and (self.text[end] == "-" or self.text[end] in FIGURES):
            end += 1
        value = integer_told(self.text[self.at:end])
        if value is not None:
            self.at = end
        return value

    def take_word(self):
        """The word that comes next."""
        end = self.text.find(MARK, self.at + 1)
        word = self.text[self.at + 1:end]
        if end < 0 or not word or any([sign not in WORD_SIGNS for sign in word]):
            return None
        self.at = end + 1
        return word

    def take_tuple(self, deep):
        """The tuple that comes next, so many being within one another with it."""
        if deep > MOST_DEEP:
            return None
        self.at += 1
        if self.takes(")"):
            return ()
        parts = []
        while True:
            part = self.take_value(deep)
            if part is None:
                return None
            parts.append(part)
            if len(parts) > 1 and self.takes(")"):
                return tuple(parts)
            if not self.takes(","):
                return None
            if len(parts) == 1 and self.takes(")"):
                return tuple(parts)
