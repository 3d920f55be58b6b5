"""Literals, and the clauses and rows that they make."""

from clausehold.errors import InvalidLiterals
from clausehold.kinds import is_sequence, is_whole


def is_row(value):
    """Whether value is a tuple of literals of unlike variables, whichever, in literal order."""
    if not isinstance(value, tuple):
        return False
    ahead = 0
    for literal in value:
        if not is_whole(literal) or abs(literal) <= ahead:
            return False
        ahead = abs(literal)
    return True


def is_clause(value, n):
    """Whether value is a clause, which is also a row of literals, of variables to n."""
    return is_row(value) and (len(value) == 0 or abs(value[-1]) <= n)


def is_literal(value, n):
    """Whether value, which may be any value, is a literal of a variable to n."""
    return is_whole(value) and 1 <= abs(value) <= n


def are_rising_variables(value, n):
    """Whether value, which may be any value, is a strictly rising sequence of variables to n."""
    return is_sequence(value) and is_clause(tuple(value), n) and all([v > 0 for v in value])


def clause_of(literals):
    """The clause of these literals, or None if a literal stands with its contrary."""
    if not is_sequence(literals) or not all([is_whole(literal) and literal != 0 for literal in literals]):
        raise InvalidLiterals(literals)
    there = {literal: True for literal in literals}
    if any([-literal in there for literal in there]):
        return None
    return tuple(sorted(there, key=abs))


def agrees(literals, model):
    """Whether all of literals are in model."""
    for literal in literals:
        if literal not in model:
            return False
    return True


def row_with(literals, literal):
    """The row of literals with one more, in literal order."""
    return tuple(sorted(literals + (literal,), key=abs))


def contraries(literals):
    """The contrary of each literal, in the same order."""
    return tuple([-literal for literal in literals])


def variables_in(clauses):
    """The variables that stand in clauses, rising."""
    return tuple(sorted({abs(literal): True for clause in clauses for literal in clause}))
