"""The errors of the package; each keeps the arguments with which it is made."""


class ClauseError(ValueError):
    """What all errors of the package are; it is never raised itself."""


class InvalidNumber(ClauseError):
    """A value is not a number that fits."""

    def __init__(self, value):
        self.value = value


class InvalidClause(ClauseError):
    """A value is not a clause that fits."""

    def __init__(self, value):
        self.value = value


class InvalidFormula(ClauseError):
    """A value is not a sequence of clauses."""

    def __init__(self, value):
        self.value = value


class InvalidLiterals(ClauseError):
    """A value is not a row of literals, variables or places that fits."""

    def __init__(self, value):
        self.value = value


class InvalidText(ClauseError):
    """A text is not one that can be read; at tells where it goes wrong."""

    def __init__(self, text, at):
        self.text = text
        self.at = at


class InvalidStep(ClauseError):
    """A step, a row of steps or a deed cannot be taken."""

    def __init__(self, step):
        self.step = step


class InvalidClaim(ClauseError):
    """A value is not a claim that fits."""

    def __init__(self, value):
        self.value = value


class InvalidQuestion(ClauseError):
    """A value is not a question that fits."""

    def __init__(self, value):
        self.value = value


class InvalidPrefix(ClauseError):
    """A value is not a prefix that fits."""

    def __init__(self, value):
        self.value = value


class InvalidWishes(ClauseError):
    """A value is not a tuple of wishes that fits."""

    def __init__(self, value):
        self.value = value


class Undefined(ClauseError):
    """What is asked for does not exist; what is a word for it."""

    def __init__(self, what):
        self.what = what


class Empty(ClauseError):
    """There is nothing left to take away; what is a word for it."""

    def __init__(self, what):
        self.what = what


class NothingToUndo(ClauseError):
    """No deed is there to be undone, or to be done again."""

    def __init__(self, deed):
        self.deed = deed
