"""Formulas between two that do not go together: they follow from the one, and do not go together with the other."""

from clausehold.clauses import contraries, is_clause, variables_in
from clausehold.errors import Undefined
from clausehold.formulas import Formula, joined
from clausehold.kinds import is_plain, is_tuple_of
from clausehold.refutations import is_refutation
from clausehold.search import searched
from clausehold.solving import is_open


def between(one, other):
    """Some formula between them."""
    claim, _ = sought(one, other)
    return Formula(one.n, claim[1])


def between_paper(one, other):
    """Some claim of a formula between them, and a paper of it."""
    return sought(one, other)


def sought(one, other):
    """The pair of a claim of a formula between them and its paper."""
    if is_open(joined(one, other)):
        raise Undefined("model")
    common = common_variables(one, other)
    clauses = []
    refutations = []
    while True:
        model, last = searched(beside(clauses, other))
        if model is None:
            return ("between", tuple(clauses)), (tuple(refutations), last)
        # With these values of the common variables other is open, so that one is shut with them.
        row = shrunk(one, tuple([model[v - 1] for v in common]))
        clauses.append(contraries(row))
        refutations.append(searched(one.under(row))[1])


def common_variables(one, other):
    """The variables that are in clauses of both, rising."""
    theirs = {v: True for v in variables_in(other.clauses)}
    return [v for v in variables_in(one.clauses) if v in theirs]


def beside(clauses, other):
    """The formula of these clauses, and behind them those of other."""
    return Formula(other.n, tuple(clauses) + other.clauses)


def shrunk(formula, row):
    """Some of a row of literals with which formula is shut, none of which can be left out."""
    few = row
    for literal in row:
        fewer = tuple([x for x in few if x != literal])
        if not is_open(formula.under(fewer)):
            few = fewer
    return few


def between_holds(one, other, claim, paper):
    """Whether claim tells clauses between both, and paper is a paper of it."""
    if not is_plain(claim) or not is_plain(paper):
        return False
    if one.n != other.n or not is_between_claim(one, other, claim) or not is_tuple_of(paper, 2):
        return False
    _, clauses = claim
    refutations, last = paper
    return all_follow(one, clauses, refutations) and is_refutation(beside(clauses, other), last)


def is_between_claim(one, other, claim):
    """Whether claim has the form of one of between, with common variables alone."""
    if not is_tuple_of(claim, 2) or claim[0] != "between" or not isinstance(claim[1], tuple):
        return False
    if not all([is_clause(clause, one.n) for clause in claim[1]]):
        return False
    common = common_variables(one, other)
    return all([v in common for v in variables_in(claim[1])])


def all_follow(formula, clauses, refutations):
    """Whether refutations, which may be any value, has for each clause one of formula under its contraries."""
    if not is_tuple_of(refutations, len(clauses)):
        return False
    for clause, refutation in zip(clauses, refutations):
        if not is_refutation(formula.under(contraries(clause)), refutation):
            return False
    return True
