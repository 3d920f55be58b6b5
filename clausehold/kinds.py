"""Of what kind a value is; each function takes any value."""


def is_whole(value):
    """Whether value is an integer (a bool is none)."""
    return isinstance(value, int) and not isinstance(value, bool)


def is_number(value):
    """Whether value is an integer from 0 on."""
    return is_whole(value) and value >= 0


def is_sequence(value):
    """Whether value is a list or a tuple."""
    return isinstance(value, (list, tuple))
