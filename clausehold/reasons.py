"""Reasons: the fewest of some literals with which a formula is shut."""

from itertools import combinations

from clausehold.clauses import agrees, is_clause
from clausehold.errors import Undefined
from clausehold.kinds import is_plain, is_tuple_of
from clausehold.refutations import is_refutation
from clausehold.search import searched
from clausehold.solving import is_open, shows_open


def reasons(formula, literals):
    """The first row of fewest of literals with which formula is shut."""
    return sought(formula, literals)[0]


def reasons_paper(formula, literals):
    """A refutation with these literals, and models that show open what is ahead of them."""
    return sought(formula, literals)[1]


def sought(formula, literals):
    """The pair of the reasons and their paper."""
    # Asked first, for where all literals together are open there would be no end of rows to go through.
    if is_open(formula.under(literals)):
        raise Undefined("reasons")
    found = []
    shorter = []
    for size in range(len(literals) + 1):
        opens = []
        for places in combinations(range(len(literals)), size):
            row = tuple([literals[place] for place in places])
            model, refutation = searched_again(formula, row, found)
            if model is None:
                return row, (refutation, tuple(shorter + opens))
            opens.append(model)
        shorter = opens
    # Not come to: the row of all literals is shut.
    return None


def searched_again(formula, row, found):
    """What the search comes to with a row of literals; a model found ahead that agrees with it spares it."""
    for model in found:
        if agrees(row, model):
            return model, None
    model, refutation = searched(formula.under(row))
    if model is not None:
        found.append(model)
    return model, refutation


def reasons_holds(formula, claim, paper):
    """Whether claim is one of reasons, and paper a paper of it."""
    if not is_plain(claim) or not is_plain(paper):
        return False
    if not is_reasons_claim(claim, formula.n) or not is_tuple_of(paper, 2):
        return False
    _, literals, few = claim
    refutation, opens = paper
    return opens_hold(formula, literals, few, opens) and is_refutation(formula.under(few), refutation)


def is_reasons_claim(claim, n):
    """Whether claim has the form of a claim of reasons: some literals of a row of literals to n."""
    if not is_tuple_of(claim, 3) or claim[0] != "reasons":
        return False
    return is_clause(claim[1], n) and is_clause(claim[2], n) and agrees(claim[2], claim[1])


def opens_hold(formula, literals, few, opens):
    """Whether opens has a model for each row of one literal less than few, and for each of as many ahead of few."""
    if not isinstance(opens, tuple):
        return False
    if not few:
        return len(opens) == 0
    at = 0
    for size in range(len(few) - 1, len(few) + 1):
        for places in combinations(range(len(literals)), size):
            row = tuple([literals[place] for place in places])
            if row == few:
                return at == len(opens)
            if at == len(opens) or not shows_open(formula, row, opens[at]):
                return False
            at += 1
    return False
