"""Formulas, how they are put together, and their texts."""

from clausehold.clauses import is_clause
from clausehold.errors import InvalidClause, InvalidFormula, InvalidLiterals, InvalidNumber, InvalidText, Undefined
from clausehold.figures import integer_told, number_told
from clausehold.kinds import is_number, is_sequence, is_whole


class Formula:
    """A row of clauses over the variables from 1 to n."""

    def __init__(self, n, clauses):
        if not is_number(n):
            raise InvalidNumber(n)
        if not is_sequence(clauses):
            raise InvalidFormula(clauses)
        for clause in clauses:
            if not is_clause(clause, n):
                raise InvalidClause(clause)
        self.n = n
        self.clauses = tuple(clauses)

    def __eq__(self, other):
        return isinstance(other, Formula) and self.n == other.n and self.clauses == other.clauses

    def __len__(self):
        return len(self.clauses)

    def __str__(self):
        return "\n".join([f"vars {self.n}"] + [clause_line(clause) for clause in self.clauses])

    def with_clause(self, clause):
        """The formula with this clause behind the others."""
        if not is_clause(clause, self.n):
            raise InvalidClause(clause)
        return Formula(self.n, self.clauses + (clause,))

    def without(self, place):
        """The formula without the clause at place."""
        if not is_place(place, self.clauses):
            raise InvalidNumber(place)
        return Formula(self.n, self.clauses[:place] + self.clauses[place + 1:])

    def only(self, places):
        """The formula of the clauses at places."""
        if not are_rising_places(places, self.clauses):
            raise InvalidLiterals(places)
        return Formula(self.n, [self.clauses[place] for place in places])

    def under(self, literals):
        """The formula with each of these literals as a clause behind the others."""
        if not is_clause(literals, self.n):
            raise InvalidLiterals(literals)
        return Formula(self.n, self.clauses + tuple([(literal,) for literal in literals]))


def is_place(value, members):
    """Whether value, which may be any value, is the place of one of members."""
    return is_number(value) and value < len(members)


def are_rising_places(value, members):
    """Whether value, which may be any value, is a strictly rising sequence of places of members."""
    if not is_sequence(value):
        return False
    ahead = -1
    for place in value:
        if not is_whole(place) or not ahead < place < len(members):
            return False
        ahead = place
    return True


def joined(one, other):
    """The formula of the clauses of one and, behind them, of other."""
    if one.n != other.n:
        raise Undefined("size")
    return Formula(one.n, one.clauses + other.clauses)


def clause_line(clause):
    """The line that tells a clause."""
    return " ".join([str(literal) for literal in clause]) if clause else "-"


def size_told(line):
    """The n that the first line of a text tells, or None."""
    return number_told(line[5:]) if line.startswith("vars ") else None


def clause_told(line, n):
    """The clause of literals to n that a line tells, or None."""
    if line == "-":
        return ()
    clause = tuple([integer_told(word) for word in line.split(" ")])
    return clause if is_clause(clause, n) else None


def read_formula(text):
    """The formula whose text this is."""
    lines = text.split("\n")
    n = size_told(lines[0])
    if n is None:
        raise InvalidText(text, 0)
    clauses = []
    at = len(lines[0]) + 1
    for line in lines[1:]:
        clause = clause_told(line, n)
        if clause is None:
            raise InvalidText(text, at)
        clauses.append(clause)
        at += len(line) + 1
    return Formula(n, clauses)
