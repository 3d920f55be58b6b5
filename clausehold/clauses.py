"""Literals, and the clauses and rows that they make."""

from clausehold.errors import InvalidLiterals
from clausehold.kinds import is_sequence, is_whole


def is_clause(value, n):
    """Whether value is a clause, which is also a row of literals, of variables to n."""
    if not isinstance(value, tuple):
        return False
    ahead = 0
    for literal in value:
        if not is_whole(literal) or not ahead < abs(literal) <= n:
            return False
        ahead = abs(literal)
    return True


def clause_of(literals):
    """The clause of these literals, or None if a literal stands with its contrary."""
    if not is_sequence(literals) or not all([is_whole(literal) and literal != 0 for literal in literals]):
        raise InvalidLiterals(literals)
    there = {literal: True for literal in literals}
    if any([-literal in there for literal in there]):
        return None
    return tuple(sorted(there, key=abs))


def agrees(literals, model):
    """Whether all of literals are in model."""
    for literal in literals:
        if literal not in model:
            return False
    return True
