"""Whether each choice of some variables can be met by some choice of others, and the trees that show it."""

from clausehold.clauserow import ClauseRow
from clausehold.clauses import are_rising_variables, contraries, row_with
from clausehold.errors import InvalidPrefix, Undefined
from clausehold.kinds import is_plain, is_tuple_of
from clausehold.refutations import is_refutation
from clausehold.search import searched

WORDS = ("each", "some")
END = (("add", ()),)


def is_prefix(value, n):
    """Whether value, which may be any value, is a prefix for formulas of n variables."""
    if not isinstance(value, tuple) or not all([is_group(pair, n) for pair in value]):
        return False
    there = sorted([v for _, variables in value for v in variables])
    return len(there) == n and there == list(range(1, n + 1))


def is_group(value, n):
    """Whether value, which may be any value, is a pair of a word and a strictly rising row of variables, not ()."""
    if not is_tuple_of(value, 2) or value[0] not in WORDS or not isinstance(value[1], tuple):
        return False
    return len(value[1]) > 0 and are_rising_variables(value[1], n)


def turns(prefix):
    """The pairs of a variable and the word of its group, in the order of the prefix."""
    return [(v, word) for word, variables in prefix for v in variables]


def is_met(formula, prefix):
    """Whether formula is met by the prefix."""
    return played(formula, prefix)[0]


def met_claim(formula, prefix):
    """The claim, met or missed, that is true."""
    return ("met" if is_met(formula, prefix) else "missed", prefix)


def met_paper(formula, prefix):
    """Some paper of the claim that is true: a tree."""
    return played(formula, prefix)[1]


def played(formula, prefix):
    """The pair of whether formula is met by the prefix, and a tree that shows it."""
    if not is_prefix(prefix, formula.n):
        raise InvalidPrefix(prefix)
    return played_on(ClauseRow(formula.clauses), formula.clauses, turns(prefix), ())


def played_on(row, clauses, order, literals):
    """As played, behind these literals; row is one of the clauses, and order has the turns of all variables."""
    if all_met(clauses, literals):
        return True, ("done",)
    if row.brings(contraries(literals)):
        return False, ("shut", END)
    v, word = order[len(literals)]
    wanted = word == "some"
    trees = []
    for literal in (v, -v):
        met, tree = played_on(row, clauses, order, row_with(literals, literal))
        if met == wanted:
            return met, ("pick", literal, tree)
        trees.append(tree)
    return not wanted, ("both", trees[0], trees[1])


def all_met(clauses, literals):
    """Whether each clause has one of these literals."""
    for clause in clauses:
        if not any([literal in literals for literal in clause]):
            return False
    return True


def met_holds(formula, claim, paper):
    """Whether claim is one of met or missed, and paper a paper of it."""
    if not is_plain(claim) or not is_plain(paper):
        return False
    if not is_tuple_of(claim, 2) or claim[0] not in ("met", "missed") or not is_prefix(claim[1], formula.n):
        return False
    return is_tree(formula, claim[0], turns(claim[1]), (), paper)


def is_tree(formula, word, order, literals, tree):
    """Whether tree, which may be any plain value, is one of met or of missed, as the word is, behind these
    literals."""
    if is_tuple_of(tree, 1):
        return word == "met" and tree[0] == "done" and all_met(formula.clauses, literals)
    if is_tuple_of(tree, 2):
        return word == "missed" and tree[0] == "shut" and is_refutation(formula.under(literals), tree[1])
    if not is_tuple_of(tree, 3) or len(literals) == len(order):
        return False
    v, group = order[len(literals)]
    kind, first, second = tree
    if (group == "some") == (word == "met"):
        if kind != "pick" or first not in (v, -v):
            return False
        return is_tree(formula, word, order, row_with(literals, first), second)
    if kind != "both" or not is_tree(formula, word, order, row_with(literals, v), first):
        return False
    return is_tree(formula, word, order, row_with(literals, -v), second)


def ways_to_meet(formula, prefix):
    """For each row of literals of the each group the first row of the some group that meets it, or None."""
    if not is_prefix(prefix, formula.n):
        raise InvalidPrefix(prefix)
    if [word for word, _ in prefix] != ["each", "some"]:
        raise Undefined("prefix")
    asked = prefix[0][1]
    answering = prefix[1][1]
    return tuple([(row, first_answer(formula, row, answering)) for row in rows_of(asked)])


def rows_of(variables):
    """All rows of literals of these variables, the last variable changing first, the positive literal ahead."""
    rows = [()]
    for v in variables:
        rows = [row + (literal,) for row in rows for literal in (v, -v)]
    return rows


def first_answer(formula, row, variables):
    """The first row of literals of these variables, all others being in row, that makes all clauses true, or None."""
    model, _ = searched(formula.under(row))
    return None if model is None else tuple([model[v - 1] for v in variables])
