"""Refutations: rows of steps that lead to the empty clause."""

from clausehold.clauserow import ClauseRow
from clausehold.clauses import is_clause
from clausehold.kinds import is_tuple_of


def is_refutation(formula, steps):
    """Whether steps, which may be any value, is a refutation of formula."""
    if not isinstance(steps, tuple) or not steps or steps[-1] != ("add", ()):
        return False
    row = ClauseRow(formula.clauses)
    for step in steps:
        if not is_tuple_of(step, 2) or not is_clause(step[1], formula.n) or not takes(row, step):
            return False
    return True


def takes(row, step):
    """Takes a step on a row of clauses; whether it can be taken."""
    word, clause = step
    if word == "add" and row.brings(clause):
        row.put(clause)
        return True
    if word == "drop" and row.has(clause):
        row.take(clause)
        return True
    return False
