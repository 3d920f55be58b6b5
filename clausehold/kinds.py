"""Of what kind a value is; each function takes any value."""


def is_whole(value):
    """Whether value is an integer (a bool is none)."""
    return isinstance(value, int) and not isinstance(value, bool)


def is_number(value):
    """Whether value is an integer from 0 on."""
    return is_whole(value) and value >= 0


def is_sequence(value):
    """Whether value is a list or a tuple."""
    return isinstance(value, (list, tuple))


def is_plain(value):
    """Whether value is made of tuples, integers and words alone."""
    # A row of what is still to be looked at, so that no depth of nesting is too much.
    waiting = [value]
    while waiting:
        part = waiting.pop()
        if isinstance(part, tuple):
            waiting.extend(part)
        elif not is_whole(part) and not isinstance(part, str):
            return False
    return True


def is_tuple_of(value, many):
    """Whether value is a tuple of so many members."""
    return isinstance(value, tuple) and len(value) == many
