"""Turnings, by which literals go to literals, and formulas broken by those that keep them."""

from clausehold.clauses import clause_of, is_clause, is_literal
from clausehold.errors import InvalidLiterals, InvalidNumber, Undefined
from clausehold.formulas import Formula
from clausehold.kinds import is_number, is_plain, is_tuple_of
from clausehold.models import is_model
from clausehold.refutations import is_refutation
from clausehold.search import searched
from clausehold.solving import is_open

MOST_VARIABLES = 4


def is_turning(value, n):
    """Whether value is a turning of n variables."""
    if not is_tuple_of(value, n) or not all([is_literal(literal, n) for literal in value]):
        return False
    return len({abs(literal): True for literal in value}) == n


def is_some_turning(value):
    """Whether value, which may be any value, is a turning of as many variables as it has literals."""
    return isinstance(value, tuple) and is_turning(value, len(value))


def turned(turning, literals):
    """The clause of what the literals go to."""
    if not is_some_turning(turning):
        raise InvalidLiterals(turning)
    if not is_clause(literals, len(turning)):
        raise InvalidLiterals(literals)
    return clause_of([image(turning, literal) for literal in literals])


def image(turning, literal):
    """The literal that a literal goes to."""
    return turning[literal - 1] if literal > 0 else -turning[-literal - 1]


def keeps(formula, turning):
    """Whether the turned clauses are the formula's, each as often."""
    if not is_turning(turning, formula.n):
        raise InvalidLiterals(turning)
    return sorted([turned(turning, clause) for clause in formula.clauses]) == sorted(formula.clauses)


def is_keeping(formula, value):
    """Whether value, which may be any value, is a turning that keeps the formula."""
    return is_turning(value, formula.n) and keeps(formula, value)


def turnings(formula):
    """All turnings that keep the formula, in the order of tuples of integers."""
    if formula.n > MOST_VARIABLES:
        raise Undefined("size")
    return tuple([turning for turning in all_turnings(formula.n) if keeps(formula, turning)])


def all_turnings(n):
    """All turnings of n variables, in the order of tuples of integers."""
    literals = [literal for literal in range(-n, n + 1) if literal != 0]
    rows = [()]
    for _ in range(n):
        rows = [row + (x,) for row in rows for x in literals if x not in row and -x not in row]
    return rows


def smaller_first(turning, fresh):
    """The pair of clauses by which a row of values is not after the turned one, and the first variable not used behind
    fresh."""
    if not is_some_turning(turning):
        raise InvalidLiterals(turning)
    n = len(turning)
    if not is_number(fresh) or fresh <= n:
        raise InvalidNumber(fresh)
    rows = []
    for v in range(1, n + 1):
        y = turning[v - 1]
        # The variable fresh + v - 1 is for being alike up to v.
        ahead = [-(fresh + v - 2)] if v > 1 else []
        rows.append(ahead + [v, -y])
        if v < n:
            rows.append(ahead + [-v, -y, fresh + v - 1])
            rows.append(ahead + [v, y, fresh + v - 1])
    clauses = [clause_of(row) for row in rows]
    return tuple([clause for clause in clauses if clause is not None]), fresh + max(n - 1, 0)


def broken(formula, rows):
    """The formula with the clauses of smaller_first for each turning of rows."""
    clauses = list(formula.clauses)
    fresh = formula.n + 1
    for turning in rows:
        if not is_keeping(formula, turning):
            raise InvalidLiterals(turning)
        more, fresh = smaller_first(turning, fresh)
        clauses.extend(more)
    return Formula(fresh - 1, clauses)


def broken_claim(formula, rows):
    """The claim that is true: whether the broken formula is open or shut."""
    return ("broken", tuple(rows), "open" if is_open(broken(formula, rows)) else "shut")


def broken_paper(formula, rows):
    """Some paper of that claim: a model or a refutation of the broken formula."""
    model, refutation = searched(broken(formula, rows))
    return refutation if model is None else model


def broken_holds(formula, claim, paper):
    """Whether claim is one of broken, and paper a paper of it."""
    if not is_plain(claim) or not is_plain(paper):
        return False
    if not is_tuple_of(claim, 3) or claim[0] != "broken" or not isinstance(claim[1], tuple):
        return False
    _, rows, word = claim
    if not all([is_keeping(formula, turning) for turning in rows]):
        return False
    if word == "open":
        return is_model(broken(formula, rows), paper)
    return word == "shut" and is_refutation(broken(formula, rows), paper)
