"""Taking clauses away without loss, and bringing models back."""

from clausehold.clauses import is_clause
from clausehold.errors import InvalidStep, Undefined
from clausehold.formulas import Formula
from clausehold.kinds import is_plain, is_tuple_of
from clausehold.models import is_model
from clausehold.steps import Left, left_by


def taken(formula, step):
    """The formula that the step leaves."""
    return taken_all(formula, (step,))


def taken_all(formula, steps):
    """The formula that is left when all steps are taken, from the first on."""
    left = Left(formula.n, formula.clauses)
    for step in steps:
        if not left.take(step):
            raise InvalidStep(step)
    return Formula(formula.n, left.clauses)


def steps_open(formula):
    """All steps but puts that can be taken, kind by kind."""
    return tuple([step for step in all_steps(formula) if left_by(formula.clauses, step) is not None])


def all_steps(formula):
    """All steps but puts whose parts fit each other, kind by kind, whether they can be taken or not."""
    clauses = formula.clauses
    places = range(len(clauses))
    variables = range(1, formula.n + 1)
    steps = [("subsumed", place, other) for place in places for other in places]
    for place in places:
        for literal in clauses[place]:
            steps.extend([("strengthened", place, literal, other) for other in places])
    steps.extend([("blocked", place, literal) for place in places for literal in clauses[place]])
    for word in ("unit", "pure"):
        steps.extend([(word, literal) for v in variables for literal in (v, -v)])
    steps.extend([("eliminated", v) for v in variables])
    return steps


def brought_back(formula, steps, model):
    """The model of formula that a model of what the steps leave is brought back to."""
    left = Left(formula.n, formula.clauses)
    aways = []
    for step in steps:
        ahead = left.clauses
        if not left.take(step):
            raise InvalidStep(step)
        aways.append((step, needed_back(ahead, step)))
    if not is_model(Formula(formula.n, left.clauses), model):
        raise Undefined("model")
    values = list(model)
    for step, clauses in reversed(aways):
        bring_back(values, step, clauses)
    return tuple(values)


def needed_back(clauses, step):
    """The clauses that the step takes away and that it needs for bringing models back."""
    if step[0] == "blocked":
        return [clauses[step[1]]]
    if step[0] == "eliminated":
        return [clause for clause in clauses if step[1] in clause]
    return []


def bring_back(values, step, clauses):
    """Changes the value that this step makes it needful to change."""
    word = step[0]
    if word not in ("blocked", "unit", "pure", "eliminated"):
        return
    literal = step[-1]
    at = abs(literal) - 1
    lacking = any([lacks(values, clause, literal) for clause in clauses])
    if word == "eliminated":
        values[at] = literal if lacking else -literal
    elif word != "blocked" or lacking:
        values[at] = literal


def lacks(values, clause, literal):
    """Whether the clause has no true literal, literal not counted."""
    return not any([other != literal and values[abs(other) - 1] == other for other in clause])


def simplified(formula):
    """The pair of a formula that no step but growing ones can be taken on, and the steps that lead to it."""
    left = formula
    steps = []
    while True:
        step = next_step(left)
        if step is None:
            return left, tuple(steps)
        left = taken(left, step)
        steps.append(step)


def next_step(formula):
    """The first step that can be taken, an elimination just if it leaves fewer clauses; None if there is none."""
    for step in all_steps(formula):
        clauses = left_by(formula.clauses, step)
        if clauses is not None and (step[0] != "eliminated" or len(clauses) < len(formula)):
            return step
    return None


def left_holds(formula, claim, paper):
    """Whether claim is one of what is left, and paper a paper of it."""
    if not is_plain(claim) or not is_plain(paper) or not isinstance(paper, tuple):
        return False
    if not is_tuple_of(claim, 2) or claim[0] != "left" or not isinstance(claim[1], tuple):
        return False
    if not all([is_clause(clause, formula.n) for clause in claim[1]]):
        return False
    left = Left(formula.n, formula.clauses)
    for step in paper:
        if not left.take(step):
            return False
    return left.clauses == claim[1]
