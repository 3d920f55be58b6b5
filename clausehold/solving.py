"""Open and shut formulas, and the papers that show which they are."""

from clausehold.clauses import agrees, is_clause
from clausehold.kinds import is_plain, is_tuple_of
from clausehold.models import is_model
from clausehold.refutations import is_refutation
from clausehold.search import searched


def is_open(formula):
    """Whether formula has a model."""
    model, _ = searched(formula)
    return model is not None


def open_claim(formula, literals):
    """The claim, open or shut, that is true of formula under literals."""
    return ("open" if is_open(formula.under(literals)) else "shut", literals)


def open_paper(formula, literals):
    """Some paper of the claim that is true: a model or a refutation of formula under literals."""
    model, refutation = searched(formula.under(literals))
    return refutation if model is None else model


def open_holds(formula, claim, paper):
    """Whether claim is one of open or shut, and paper a paper of it."""
    if not is_plain(claim) or not is_plain(paper):
        return False
    if not is_tuple_of(claim, 2) or not is_clause(claim[1], formula.n):
        return False
    word, literals = claim
    if word == "open":
        return shows_open(formula, literals, paper)
    return word == "shut" and is_refutation(formula.under(literals), paper)


def shows_open(formula, literals, value):
    """Whether value, which may be any value, is a model of formula that agrees with literals."""
    return is_model(formula, value) and agrees(literals, value)
