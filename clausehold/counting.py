"""How many models there are, how many rows of some variables they agree with, and the trees that show it."""

from clausehold.clauserow import ClauseRow
from clausehold.clauses import agrees, are_rising_variables, variables_in
from clausehold.errors import InvalidLiterals
from clausehold.formulas import Formula
from clausehold.kinds import is_plain, is_tuple_of
from clausehold.parting import by_literal, parted
from clausehold.refutations import is_refutation
from clausehold.search import searched
from clausehold.solving import shows_open

END = (("add", ()),)


def count(formula):
    """The number of models."""
    return counted(formula.clauses, all_variables(formula))[0]


def count_claim(formula):
    """The claim that tells the number of models."""
    return ("count", count(formula))


def count_paper(formula):
    """Some paper of that claim: a counting tree."""
    return counted(formula.clauses, all_variables(formula))[1]


def all_variables(formula):
    """The variables from 1 to n."""
    return tuple(range(1, formula.n + 1))


def counted(clauses, variables):
    """The pair of how many rows of values of variables make all clauses true, and a counting tree."""
    if not clauses:
        return 1 << len(variables), ("free",)
    if ClauseRow(clauses).brings(()):
        return 0, ("shut", END)
    groups = parted(clauses)
    if len(groups) > 1:
        return counted_parts(groups, variables)
    v = most_common(clauses)
    rest = without(variables, v)
    yes_many, yes = counted(by_literal(clauses, v), rest)
    no_many, no = counted(by_literal(clauses, -v), rest)
    return yes_many + no_many, ("split", v, yes, no)


def counted_parts(groups, variables):
    """As counted, for the groups into which the clauses are parted."""
    many = free_rows(groups, variables)
    trees = []
    for group in groups:
        part, tree = counted(group, variables_in(group))
        many = many * part
        trees.append(tree)
    return many, ("parts", tuple(trees))


def free_rows(groups, variables):
    """How many rows of values the variables have that stand in none of the groups."""
    return 1 << (len(variables) - sum([len(variables_in(group)) for group in groups]))


def most_common(clauses):
    """The variable that stands in most clauses, the first of several."""
    counts = {}
    for clause in clauses:
        for literal in clause:
            counts[abs(literal)] = counts.get(abs(literal), 0) + 1
    most = max(counts.values())
    return min([v for v in counts if counts[v] == most])


def without(variables, v):
    """The other variables."""
    return tuple([other for other in variables if other != v])


def count_holds(formula, claim, paper):
    """Whether claim is one of count, and paper a paper of it."""
    if not is_plain(claim) or not is_plain(paper):
        return False
    if not is_tuple_of(claim, 2) or claim[0] != "count":
        return False
    many = tree_count(formula.n, formula.clauses, all_variables(formula), paper)
    return many is not None and many == claim[1]


def tree_count(n, clauses, variables, tree):
    """What the tree, which may be any plain value, counts, or None if it is no counting tree of these clauses and
    variables."""
    if tree == ("free",):
        return None if clauses else 1 << len(variables)
    if is_tuple_of(tree, 4) and tree[0] == "split":
        return split_count(n, clauses, variables, tree)
    if is_tuple_of(tree, 2) and tree[0] == "parts":
        return parts_count(n, clauses, variables, tree[1])
    if is_tuple_of(tree, 2) and tree[0] == "shut":
        return 0 if is_refutation(Formula(n, clauses), tree[1]) else None
    return None


def split_count(n, clauses, variables, tree):
    """What a tree counts that splits a variable, or None."""
    _, v, yes, no = tree
    if v not in variables:
        return None
    rest = without(variables, v)
    return both(tree_count(n, by_literal(clauses, v), rest, yes), tree_count(n, by_literal(clauses, -v), rest, no))


def both(yes_many, no_many):
    """The sum of what two trees count, or None if one of them is none."""
    return None if yes_many is None or no_many is None else yes_many + no_many


def parts_count(n, clauses, variables, trees):
    """What a tree counts that parts the clauses, trees being what it has for the groups, or None."""
    if () in clauses:
        return None
    groups = parted(clauses)
    if len(groups) < 2 or not is_tuple_of(trees, len(groups)):
        return None
    many = free_rows(groups, variables)
    for group, tree in zip(groups, trees):
        part = tree_count(n, group, variables_in(group), tree)
        if part is None:
            return None
        many = many * part
    return many


def count_of(formula, variables):
    """The number of rows of literals of just these variables that some model agrees with."""
    return counted_of(formula, checked(formula, variables), (), None)[0]


def count_of_claim(formula, variables):
    """The claim that tells this number."""
    return ("count of", checked(formula, variables), count_of(formula, variables))


def count_of_paper(formula, variables):
    """Some paper of that claim: a tree that splits these variables."""
    return counted_of(formula, checked(formula, variables), (), None)[1]


def checked(formula, variables):
    """The variables as a tuple."""
    if not are_rising_variables(variables, formula.n):
        raise InvalidLiterals(variables)
    return tuple(variables)


def counted_of(formula, variables, literals, model):
    """The pair of how many rows begin with these literals, and a tree for them; model is one of the formula's if it is
    not None."""
    if model is None or not agrees(literals, model):
        model, refutation = searched(formula.under(literals))
        if model is None:
            return 0, ("shut", refutation)
    if len(literals) == len(variables):
        return 1, ("open", model)
    v = variables[len(literals)]
    yes_many, yes = counted_of(formula, variables, literals + (v,), model)
    no_many, no = counted_of(formula, variables, literals + (-v,), model)
    return yes_many + no_many, ("split", v, yes, no)


def count_of_holds(formula, claim, paper):
    """Whether claim is one of count of, and paper a paper of it."""
    if not is_plain(claim) or not is_plain(paper):
        return False
    if not is_tuple_of(claim, 3) or claim[0] != "count of" or not are_rising_variables(claim[1], formula.n):
        return False
    many = opens_in(formula, claim[1], (), paper)
    return many is not None and many == claim[2]


def opens_in(formula, variables, literals, tree):
    """How many rows that begin with these literals the tree, which may be any plain value, shows to be open, or None
    if it is no such tree."""
    if is_tuple_of(tree, 2) and tree[0] == "shut":
        return 0 if is_refutation(formula.under(literals), tree[1]) else None
    if len(literals) == len(variables):
        return 1 if is_tuple_of(tree, 2) and tree[0] == "open" and shows_open(formula, literals, tree[1]) else None
    v = variables[len(literals)]
    if not is_tuple_of(tree, 4) or tree[0] != "split" or tree[1] != v:
        return None
    return both(opens_in(formula, variables, literals + (v,), tree[2]),
                opens_in(formula, variables, literals + (-v,), tree[3]))
