"""Wishes with weights: the least that must be given up, and the trees that show it."""

from clausehold.clauses import is_clause, is_literal, row_with, variables_in
from clausehold.errors import InvalidWishes, Undefined
from clausehold.formulas import Formula, are_rising_places
from clausehold.hitting import bits_of, places_of
from clausehold.kinds import is_plain, is_tuple_of, is_whole
from clausehold.models import is_model, models, models_over
from clausehold.refutations import is_refutation
from clausehold.search import searched


def least_loss(formula, wishes):
    """The least loss of a model."""
    found = unlike_models(formula, wishes)
    if not found:
        raise Undefined("model")
    return lowest(found, wishes)


def best_models(formula, wishes):
    """All models of the least loss."""
    least = least_loss(formula, wishes)
    return tuple([model for model in models(formula) if loss(wishes, model) == least])


def least_claim(formula, wishes):
    """The claim that is true: the least loss, or that formula is shut."""
    found = unlike_models(formula, wishes)
    return ("least", wishes, lowest(found, wishes)) if found else ("shut", ())


def least_paper(formula, wishes):
    """Some paper of the claim that is true."""
    found = unlike_models(formula, wishes)
    if not found:
        return searched(formula)[1]
    least = lowest(found, wishes)
    best = [model for model in found if loss(wishes, model) == least]
    false = [(model, bits_of(false_places(wishes, model))) for model in found]
    return best[0], loss_tree(formula, wishes, least, (), false)


def unlike_models(formula, wishes):
    """All models that are unlike in the variables of the clauses and wishes, if these are wishes."""
    if not are_wishes(wishes, formula.n):
        raise InvalidWishes(wishes)
    return models_over(formula, variables_with(formula, wishes))


def variables_with(formula, wishes):
    """The variables of the clauses and of the wishes, rising."""
    return variables_in(formula.clauses + tuple([clause for clause, _ in wishes]))


def are_wishes(value, n):
    """Whether value, which may be any value, is a tuple of wishes of variables to n."""
    return isinstance(value, tuple) and all([is_wish(pair, n) for pair in value])


def is_wish(value, n):
    """Whether value, which may be any value, is a pair of a clause to n and a weight."""
    return is_tuple_of(value, 2) and is_clause(value[0], n) and is_whole(value[1]) and value[1] > 0


def false_places(wishes, model):
    """The places of the wishes that have no true literal in the model."""
    return [place for place, (clause, _) in enumerate(wishes) if not any([literal in model for literal in clause])]


def loss(wishes, model):
    """The sum of the weights of the wishes that have no true literal in the model."""
    return sum([wishes[place][1] for place in false_places(wishes, model)])


def lowest(found, wishes):
    """The least loss of the models found."""
    return min([loss(wishes, model) for model in found])


def loss_tree(formula, wishes, least, literals, found):
    """A loss tree for literals that shows the least loss; found are the models that agree with them, one at least, each
    with the bits of the places of wishes that are false in it."""
    rows = packed(wishes, least, [bits for _, bits in found])
    if rows is not None:
        return ("cores", tuple([with_refutation(formula, wishes, literals, row) for row in rows]))
    v = first_unlike(formula, wishes, found)
    yes = loss_tree(formula, wishes, least, literals + (v,), [pair for pair in found if v in pair[0]])
    no = loss_tree(formula, wishes, least, literals + (-v,), [pair for pair in found if -v in pair[0]])
    return ("split", v, yes, no)


def first_unlike(formula, wishes, found):
    """The first variable of the clauses and wishes that is true in some of the models found and false in others; it is
    behind those by which these were chosen."""
    first = found[0][0]
    for v in variables_with(formula, wishes):
        if any([first[v - 1] not in model for model, _ in found]):
            return v
    # Not come to: models that are alike in these lose the same wishes, whose weights show their loss.
    return None


def packed(wishes, least, false):
    """Pairs of the bits of places, some of which are in each of false, and a weight, the weights being at least the
    least loss in all and at most that of the wish at each place; None if they are not found."""
    left = [weight for _, weight in wishes]
    rows = []
    while sum([weight for _, weight in rows]) < least:
        bits = bits_of([place for place, weight in enumerate(left) if weight > 0])
        if not meets_all(bits, false):
            return None
        core = shrunk(bits, false)
        most = min([left[place] for place in places_of(core)])
        for place in places_of(core):
            left[place] -= most
        rows.append((core, most))
    return rows


def meets_all(bits, false):
    """Whether some of the bits are in each of false."""
    return all([bits & other for other in false])


def shrunk(bits, false):
    """A least choice of the bits some of which are in each of false, as some of all are."""
    core = bits
    for place in places_of(bits):
        fewer = core & ~(1 << place)
        if meets_all(fewer, false):
            core = fewer
    return core


def with_refutation(formula, wishes, literals, row):
    """The triple of a loss tree for a pair of bits of places and a weight."""
    bits, weight = row
    places = places_of(bits)
    return places, weight, searched(wished(formula, wishes, literals, places))[1]


def wished(formula, wishes, literals, places):
    """The formula under literals with the clauses of the wishes at places behind it."""
    return Formula(formula.n, formula.under(literals).clauses + tuple([wishes[place][0] for place in places]))


def least_holds(formula, claim, paper):
    """Whether claim is one of least, and paper a paper of it."""
    if not is_plain(claim) or not is_plain(paper):
        return False
    if not is_tuple_of(claim, 3) or claim[0] != "least" or not are_wishes(claim[1], formula.n):
        return False
    if not is_tuple_of(paper, 2) or not is_model(formula, paper[0]):
        return False
    _, wishes, least = claim
    model, tree = paper
    return loss(wishes, model) == least and is_loss_tree(formula, wishes, least, (), tree)


def is_loss_tree(formula, wishes, least, literals, tree):
    """Whether tree, which may be any plain value, is a loss tree for literals that shows the least loss."""
    if is_tuple_of(tree, 2) and tree[0] == "shut":
        return is_refutation(formula.under(literals), tree[1])
    if is_tuple_of(tree, 2) and tree[0] == "cores":
        return are_loss_cores(formula, wishes, least, literals, tree[1])
    if not is_tuple_of(tree, 4) or tree[0] != "split":
        return False
    _, v, yes, no = tree
    if not is_literal(v, formula.n) or v < 0 or v in literals or -v in literals:
        return False
    if not is_loss_tree(formula, wishes, least, row_with(literals, v), yes):
        return False
    return is_loss_tree(formula, wishes, least, row_with(literals, -v), no)


def are_loss_cores(formula, wishes, least, literals, rows):
    """Whether rows, which may be any plain value, are those of a loss tree that show the least loss."""
    if not isinstance(rows, tuple) or not all([is_loss_core(row, wishes) for row in rows]):
        return False
    left = [weight for _, weight in wishes]
    for places, weight, _ in rows:
        for place in places:
            left[place] -= weight
    if any([weight < 0 for weight in left]) or sum([row[1] for row in rows]) < least:
        return False
    return all([is_refutation(wished(formula, wishes, literals, places), steps) for places, _, steps in rows])


def is_loss_core(row, wishes):
    """Whether row is a triple of a non-empty row of places of wishes, a weight above 0 and one thing more."""
    if not is_tuple_of(row, 3) or not are_rising_places(row[0], wishes) or not row[0]:
        return False
    return is_whole(row[1]) and row[1] > 0
