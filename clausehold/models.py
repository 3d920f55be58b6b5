"""Models of formulas."""

from clausehold.clauses import is_clause
from clausehold.errors import Undefined
from clausehold.search import searched


def is_model(formula, value):
    """Whether value is a model of formula."""
    # A clause of as many literals as there are variables has one of each, in their order.
    if not is_clause(value, formula.n) or len(value) != formula.n:
        return False
    return all_true(formula.clauses, value)


def all_true(clauses, row):
    """Whether each clause has a literal that is true by a row of a literal of each variable from 1 on."""
    for clause in clauses:
        if not any([row[abs(literal) - 1] == literal for literal in clause]):
            return False
    return True


def models(formula):
    """All models, the last variable changing first, the positive literal ahead."""
    return models_over(formula, tuple(range(1, formula.n + 1)))


def models_over(formula, variables):
    """All models in which each variable but these is true, in this order."""
    rows = [()] if () not in formula.clauses else []
    for v in range(1, formula.n + 1):
        # A clause is looked at as soon as its last variable has a value.
        ending = [clause for clause in formula.clauses if clause and abs(clause[-1]) == v]
        values = (v, -v) if v in variables else (v,)
        longer = [row + (literal,) for row in rows for literal in values]
        rows = [row for row in longer if all_true(ending, row)]
    return tuple(rows)


def first_model(formula):
    """The first of all models."""
    model, _ = searched(formula)
    if model is None:
        raise Undefined("model")
    return model
