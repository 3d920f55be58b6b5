"""Literals that are true in all models, and literals that are alike in all of them."""

from clausehold.clauses import clause_of, is_clause, is_literal, variables_in
from clausehold.errors import InvalidLiterals, Undefined
from clausehold.kinds import is_plain, is_tuple_of
from clausehold.models import is_model, models
from clausehold.refutations import is_refutation
from clausehold.search import searched


def fixed(formula):
    """The row of all literals that are true in all models."""
    refutations, found = sought(formula)
    if not found:
        raise Undefined("model")
    return tuple(refutations)


def fixed_claim(formula):
    """The claim that is true: which literals are fixed, or that formula is shut."""
    refutations, found = sought(formula)
    return ("fixed", tuple(refutations)) if found else ("shut", ())


def fixed_paper(formula):
    """Some paper of the claim that is true."""
    refutations, found = sought(formula)
    if not found:
        return searched(formula)[1]
    return tuple(refutations.values()), tuple(found)


def sought(formula):
    """The pair of a dict that gives each fixed literal a refutation of its contrary, and of models in which all others
    are both true and false; no models if formula is shut."""
    model, _ = searched(formula)
    refutations = {}
    if model is None:
        return refutations, []
    # What stands in no clause may as well have the other value.
    there = variables_in(formula.clauses)
    turned = tuple([x if abs(x) in there else -x for x in model])
    found = [model] if turned == model else [model, turned]
    for literal in model:
        if any([-literal in seen for seen in found]):
            continue
        other, refutation = searched(formula.under((-literal,)))
        if other is None:
            refutations[literal] = refutation
        else:
            found.append(other)
    return refutations, found


def fixed_holds(formula, claim, paper):
    """Whether claim is one of fixed literals, and paper a paper of it."""
    if not is_plain(claim) or not is_plain(paper):
        return False
    if not is_tuple_of(claim, 2) or claim[0] != "fixed" or not is_clause(claim[1], formula.n):
        return False
    if not is_tuple_of(paper, 2) or not isinstance(paper[0], tuple) or not isinstance(paper[1], tuple):
        return False
    literals = claim[1]
    refutations, found = paper
    return shows_others(formula, literals, found) and shows_fixed(formula, literals, refutations)


def shows_fixed(formula, literals, refutations):
    """Whether there is a refutation of formula under the contrary of each literal."""
    if len(refutations) != len(literals):
        return False
    for literal, refutation in zip(literals, refutations):
        if not is_refutation(formula.under((-literal,)), refutation):
            return False
    return True


def shows_others(formula, literals, found):
    """Whether found are models, one at least, in which each variable without one of literals is both true and false."""
    if not found or not all([is_model(formula, model) for model in found]):
        return False
    for v in range(1, formula.n + 1):
        if v not in literals and -v not in literals:
            values = {model[v - 1]: True for model in found}
            if len(values) < 2:
                return False
    return True


def alike_claim(formula, a, b):
    """The claim, alike or unlike, that is true of both literals."""
    return answered(formula, a, b)[0]


def alike_paper(formula, a, b):
    """Some paper of the claim that is true: two refutations, or a model in which just one literal is true."""
    return answered(formula, a, b)[1]


def answered(formula, a, b):
    """The pair of the claim that is true of both literals, and a paper of it."""
    if not are_unlike(a, b, formula.n):
        raise InvalidLiterals((a, b))
    refutations = []
    for row in apart(a, b):
        model, refutation = searched(formula.under(row))
        if model is not None:
            return ("unlike", a, b), model
        refutations.append(refutation)
    return ("alike", a, b), tuple(refutations)


def are_unlike(a, b, n):
    """Whether a and b, which may be any values, are literals to n of unlike variables."""
    return is_literal(a, n) and is_literal(b, n) and abs(a) != abs(b)


def apart(a, b):
    """The two rows of literals by which just one of both is true."""
    return clause_of((a, -b)), clause_of((-a, b))


def alike_holds(formula, claim, paper):
    """Whether claim is one of alike or unlike, and paper a paper of it."""
    if not is_plain(claim) or not is_plain(paper):
        return False
    if not is_tuple_of(claim, 3) or not are_unlike(claim[1], claim[2], formula.n):
        return False
    word, a, b = claim
    if word == "unlike":
        return is_model(formula, paper) and (a in paper) != (b in paper)
    if word != "alike" or not is_tuple_of(paper, 2):
        return False
    for row, refutation in zip(apart(a, b), paper):
        if not is_refutation(formula.under(row), refutation):
            return False
    return True


def alike_groups(formula):
    """All greatest groups of two or more literals that are alike, those that begin with a positive one."""
    found = models(formula)
    groups = {}
    for v in range(1, formula.n + 1):
        signs = tuple([model[v - 1] > 0 for model in found])
        contrary = tuple([not sign for sign in signs])
        if signs not in groups and contrary in groups:
            groups[contrary].append(-v)
        else:
            groups.setdefault(signs, []).append(v)
    return tuple([tuple(group) for group in groups.values() if len(group) > 1])
