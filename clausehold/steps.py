"""Steps of taking away: their forms, when each can be taken, and what clauses it leaves."""

from clausehold.clauserow import ClauseRow
from clausehold.clauses import clause_of, is_clause, is_literal
from clausehold.formulas import is_place
from clausehold.parting import by_literal

# What each kind of step has behind its word, in the order of the kinds.
PARTS = {
    "subsumed": ("place", "place"),
    "strengthened": ("place", "literal", "place"),
    "blocked": ("place", "literal"),
    "unit": ("literal",),
    "pure": ("literal",),
    "eliminated": ("variable",),
    "put": ("clause",),
}


def is_step(value, n, clauses):
    """Whether value, which may be any value, has the form of a step for these clauses and n variables."""
    if not isinstance(value, tuple) or not value or not isinstance(value[0], str) or value[0] not in PARTS:
        return False
    kinds = PARTS[value[0]]
    if len(value) != 1 + len(kinds):
        return False
    return all([is_part(kind, part, n, clauses) for kind, part in zip(kinds, value[1:])])


def is_part(kind, value, n, clauses):
    """Whether value, which may be any value, is of this kind."""
    if kind == "place":
        return is_place(value, clauses)
    if kind == "clause":
        return is_clause(value, n)
    return is_literal(value, n) and (kind == "literal" or value > 0)


def is_within(one, other):
    """Whether all literals of one are in other."""
    return all([literal in other for literal in one])


def rest(clause, literal):
    """The other literals of the clause."""
    return tuple([other for other in clause if other != literal])


def without_place(clauses, place):
    """The clauses but the one at place."""
    return clauses[:place] + clauses[place + 1:]


def after_subsumed(clauses, step):
    """What such a step leaves of clauses, or None if it cannot be taken; so in the five functions that follow."""
    _, place, other = step
    if place == other or not is_within(clauses[other], clauses[place]):
        return None
    return without_place(clauses, place)


def after_strengthened(clauses, step):
    """A clause loses a literal."""
    _, place, literal, other = step
    if literal not in clauses[place] or -literal not in clauses[other]:
        return None
    if not is_within(rest(clauses[other], -literal), clauses[place]):
        return None
    return clauses[:place] + (rest(clauses[place], literal),) + clauses[place + 1:]


def after_blocked(clauses, step):
    """A clause goes that each clause with the contrary of one of its literals clashes with in another one, too."""
    _, place, literal = step
    if literal not in clauses[place]:
        return None
    others = rest(clauses[place], literal)
    for clause in clauses:
        if -literal in clause and not any([-other in clause for other in others]):
            return None
    return without_place(clauses, place)


def after_unit(clauses, step):
    """A literal that is a clause alone is made true."""
    _, literal = step
    return by_literal(clauses, literal) if (literal,) in clauses else None


def after_pure(clauses, step):
    """A literal whose contrary stands nowhere is made true."""
    _, literal = step
    if any([-literal in clause for clause in clauses]) or not any([literal in clause for clause in clauses]):
        return None
    return by_literal(clauses, literal)


def after_eliminated(clauses, step):
    """The clauses with a variable give way to what follows from two of them without it."""
    _, v = step
    positive = [clause for clause in clauses if v in clause]
    negative = [clause for clause in clauses if -v in clause]
    left = [clause for clause in clauses if v not in clause and -v not in clause]
    standing = {clause: True for clause in left}
    for one in positive:
        for other in negative:
            joined = clause_of(rest(one, v) + rest(other, -v))
            if joined is not None and joined not in standing:
                standing[joined] = True
                left.append(joined)
    return tuple(left)


AFTER = {
    "subsumed": after_subsumed,
    "strengthened": after_strengthened,
    "blocked": after_blocked,
    "unit": after_unit,
    "pure": after_pure,
    "eliminated": after_eliminated,
}


def left_by(clauses, step):
    """What a step of fitting form, but no put, leaves of clauses; None if it cannot be taken."""
    after = AFTER[step[0]]
    return after(clauses, step)


class Left:
    """The clauses that are left as steps are taken one by one."""

    def __init__(self, n, clauses):
        self.n = n
        self.clauses = clauses
        self.row = None

    def take(self, step):
        """Takes the step, which may be any value; whether it can be taken."""
        if not is_step(step, self.n, self.clauses):
            return False
        if step[0] == "put":
            return self.put(step[1])
        left = left_by(self.clauses, step)
        if left is None:
            return False
        self.clauses = left
        self.row = None
        return True

    def put(self, clause):
        """Puts a clause behind the others; whether it follows at once."""
        # The row is kept from one put to the next, for to make it anew takes a look at all clauses.
        if self.row is None:
            self.row = ClauseRow(self.clauses)
        if not self.row.brings(clause):
            return False
        self.row.put(clause)
        self.clauses = self.clauses + (clause,)
        return True
