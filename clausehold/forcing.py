"""Values that are forced."""

from clausehold.clauserow import ClauseRow
from clausehold.clauses import is_clause
from clausehold.errors import InvalidLiterals


def forced(formula, literals):
    """The row of all literals that are true in the end, or None if a clause has all its literals false."""
    if not is_clause(literals, formula.n):
        raise InvalidLiterals(literals)
    true = {literal: None for literal in literals}
    if ClauseRow(formula.clauses).spread(true) is not None:
        return None
    return tuple(sorted(true, key=abs))
