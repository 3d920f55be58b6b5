"""What several tests use: trying all rows of values, small formulas, values of every kind."""

import random
import unittest
from itertools import product

from clausehold.formulas import Formula


class Case(unittest.TestCase):
    def assertRaisesWith(self, error, kept, call, *arguments, **named):
        """The call raises just this error, which keeps these very values."""
        with self.assertRaises(error) as caught:
            call(*arguments, **named)
        self.assertIs(caught.exception.__class__, error)
        have = dict(vars(caught.exception))
        self.assertEqual(sorted(have), sorted(kept))
        for name, value in kept.items():
            self.assertIs(have[name].__class__, value.__class__, name)
            self.assertEqual(have[name], value)

    def assertSame(self, one, other):
        """Both are equal, and of equal kinds throughout."""
        self.assertEqual(repr(one), repr(other))

    def assertHolds(self, holds, formula, claim, paper):
        self.assertIs(holds(formula, claim, paper), True, (claim, paper))

    def assertNot(self, holds, formula, claim, paper):
        self.assertIs(holds(formula, claim, paper), False, (claim, paper))

    def assertLooksClosely(self, holds, formula, claim, paper, no_parts=None):
        """The paper holds; nothing holds where a part of it or of the claim is of a kind that has no place there."""
        self.assertHolds(holds, formula, claim, paper)
        for other in list(listed_anywhere(paper)) + list(true_for_one(paper)):
            self.assertNot(holds, formula, claim, other)
        for other in list(listed_anywhere(claim)) + list(true_for_one(claim)):
            self.assertNot(holds, formula, other, paper)
        for put in no_parts or NO_PARTS:
            for other in changed_anywhere(paper, put):
                self.assertNot(holds, formula, claim, other)
            for other in changed_anywhere(claim, put):
                self.assertNot(holds, formula, other, paper)
        for odd in ODD_VALUES + (nested(30), nested(30, list), nested(29) + (1,)):
            self.assertNot(holds, formula, odd, odd)
            if repr(odd) != repr(claim):
                self.assertNot(holds, formula, odd, paper)
            if repr(odd) != repr(paper):
                self.assertNot(holds, formula, claim, odd)


def tried_models(formula):
    """All models, found by trying all rows of values, in the order of the document."""
    rows = product(*[(v, -v) for v in range(1, formula.n + 1)])
    return tuple(row for row in rows if all(set(clause) & set(row) for clause in formula.clauses))


def random_clause(rng, n, most):
    many = rng.randint(0 if rng.random() < 0.03 else min(1, n), min(n, most))
    return tuple(v * rng.choice((1, -1)) for v in sorted(rng.sample(range(1, n + 1), many)))


def random_row(rng, n):
    return random_clause(rng, n, n) if rng.random() < 0.9 else ()


def random_formulas(seed, many, most_n=5, most_clauses=14, most_literals=3):
    rng = random.Random(seed)
    for _ in range(many):
        n = rng.randint(0, most_n)
        clauses = [random_clause(rng, n, most_literals) for _ in range(rng.randint(0, most_clauses))]
        if clauses and rng.random() < 0.3:
            clauses.append(rng.choice(clauses))
        yield Formula(n, clauses)


# Values of every kind that the document names, none of them a row, claim, paper or step.
ODD_VALUES = (
    0, 1, -1, 10 ** 15, True, False, None, "", "open", "add", "some words", (), [], (()), ((),), [[]], (None,), (True,),
    (1, True), ("add",), ("add", ()), ("drop", ()), (("add", ()), None), [("add", ())], (("add", []),), (["add", ()],),
    (("put", ()),), (("add", (), ()),), (("add",),), ((), ()), ((((),),),), (1, (2, (3, ("x",)))), Formula(1, ()),
    (Formula(1, ()),), ("open", Formula(1, ())), [1], [1, [2]], ("open", ()), ("shut", ()), ("open",), ("open", (), ()),
    ["open", ()], ("open", []), ("open", None), ("open", "1"), ("reasons", (), ()), ("reasons", ()), ("reasons", [], []),
    (True, ()), ((("add", ()),), ()), ((("add", ()),), []), [(("add", ()),), ()], ((("add", ()),), (), ()),
    ((("add", ()),), (True,)), ("shut", (0,)), ("shut", (True,)), ("open", (2, 1)), ("open", (1, -1)),
    ("fixed",), ("fixed", (), ()), ("fixed", []), ["fixed", ()], ("fixed", None), ("fixed", (0,)), ("fixed", "1"),
    ("alike", 1), ("alike", 1, 1), ("alike", 1, -1), ("unlike", 1, -1), ("alike", 1, 2, 3), ("unlike", 0, 1),
    ("alike", True, 2), ("alike", (1,), (2,)), ("core",), ("core", [0]), ("core", 0), ("core", (-1,)), ("core", (0, 0)),
    ("release", (True,)), ("release", None), ("release", (), ()), ("cores", ()), ("cores", (), (), ()), ("cores", 1, 2),
    ("cores", ((0,),), [()]), ("cores", [], ((),)), ("count",), ("count", True), ("count", -1), ("count", "1"),
    ("count", None), ("count", (1,)), ("count of", (), True), ("count of", (1,)), ("count of", [1], 2), ("free",),
    ("count of", (2, 1), 1), ("count of", (0,), 1), ("free", ()), ("shut",), ("split", 1), ("split", 1, ("free",)),
    ("parts",), ("parts", ()), ("parts", (("free",),)), ("least", ()), ("least", (), -1), ("least", [], 0),
    ("least", (((), 0),), 0), ("least", ((1, 1),), 1), ("least", (), True), ("left",), ("left", [], ()), ("left", [()]),
    ("left", ((True,),)), ("left", 1), (((), 0, 1),), ((), 0, 1), (((), 0),), (((), -1, 0),), (((), True, False),),
    ("between",), ("between", ()), ("between", [()]), ("between", ((True,),)), ("between", 1), ("met",), ("met", (), ()),
    ("met", [("each", (1,))]), ("missed", (("each", [1]),)), ("met", ((["each"], (1,)),)), ("missed", "each"), ("done",),
    ("done", ()), ("both", ("done",)), ("pick", 1), ("pick", True, ("done",)), ("broken", ()), ("broken", [], "open"),
    ("broken", ((True,),), "open"), ("broken", (), "Open"), ("broken", (), True), ("broken", "open", ()),
)


# Values that are right nowhere in a claim or a paper of a small formula.
NO_PARTS = (None, False, True, [], "", "word", Formula(1, ()), 99, -99, 10 ** 14, (("x",),), {}, 1.0)


def nested(deep, kind=tuple):
    value = kind()
    for _ in range(deep - 1):
        value = kind([value])
    return value


def changed_anywhere(value, put):
    """All copies of a nested tuple in which one part, or the whole, is put in the place of another value."""
    yield put
    if isinstance(value, tuple):
        for at, part in enumerate(value):
            for other in changed_anywhere(part, put):
                yield value[:at] + (other,) + value[at + 1:]


def listed_anywhere(value):
    """All copies of a nested tuple in which one tuple has become a list."""
    if isinstance(value, tuple):
        yield list(value)
        for at, part in enumerate(value):
            for other in listed_anywhere(part):
                yield value[:at] + (other,) + value[at + 1:]


def true_for_one(value):
    """All copies of a nested tuple in which one 1 has become True."""
    if isinstance(value, tuple):
        for at, part in enumerate(value):
            for other in true_for_one(part):
                yield value[:at] + (other,) + value[at + 1:]
    elif value.__class__ is int and value == 1:
        yield True


def slowly_forced(clauses, literals):
    """The literals that are true in the end, one clause being taken at a time, or None: as the document tells it."""
    true = set(literals)
    while True:
        for clause in clauses:
            left = [x for x in clause if -x not in true]
            if not left:
                return None
            if len(left) == 1 and left[0] not in true:
                true.add(left[0])
                break
        else:
            return true


def slowly_refutes(formula, steps):
    """Whether a tuple of well-formed steps is a refutation, told as the document tells it."""
    row = list(formula.clauses)
    for word, clause in steps:
        if word == "add":
            if slowly_forced(row, [-x for x in clause]) is not None:
                return False
            row.append(clause)
        else:
            if clause not in row:
                return False
            row.remove(clause)
    return bool(steps) and steps[-1] == ("add", ())


def counter_clauses(literals, k, fresh):
    """Clauses as in point [27], with new variables from fresh on, that let at most k of the literals be true."""
    m = len(literals)

    def s(i, j):
        return fresh + (i - 1) * k + (j - 1)

    rows = [(-literals[0], s(1, 1))] + [(-s(1, j),) for j in range(2, k + 1)]
    for i in range(2, m):
        x = literals[i - 1]
        rows += [(-x, s(i, 1)), (-s(i - 1, 1), s(i, 1))]
        for j in range(2, k + 1):
            rows += [(-x, -s(i - 1, j - 1), s(i, j)), (-s(i - 1, j), s(i, j))]
        rows.append((-x, -s(i - 1, k)))
    rows.append((-literals[-1], -s(m - 1, k)))
    return [tuple(sorted(row, key=abs)) for row in rows], fresh + (m - 1) * k


def counted_formula(n, least, most):
    """A formula that is open just if a number is from least to most, over n variables and new ones."""
    variables = list(range(1, n + 1))
    upper, fresh = counter_clauses(variables, most, n + 1)
    lower, behind = counter_clauses([-v for v in variables], n - least, fresh)
    return Formula(behind - 1, upper + lower)


def parity_formula(n, bits):
    """A formula whose models leave each of bits where their true literals are counted by 2."""
    rows = product((0, 1), repeat=n)
    return Formula(n, [tuple(-v if one else v for v, one in enumerate(row, 1))
                       for row in rows for bit in bits if sum(row) % 2 != bit])


def first_clauses(turning, fresh):
    """Clauses as in point [32]: the row of values is not after the turned one."""
    rows = []
    n = len(turning)
    for v in range(1, n + 1):
        ahead = [-(fresh + v - 2)] if v > 1 else []
        y = turning[v - 1]
        rows.append(ahead + [v, -y])
        if v < n:
            rows += [ahead + [-v, -y, fresh + v - 1], ahead + [v, y, fresh + v - 1]]
    kept = [set(row) for row in rows if not any(-x in row for x in row)]
    return [tuple(sorted(row, key=abs)) for row in kept], fresh + max(n - 1, 0)


def broken_formula(formula, turnings):
    """The formula with the clauses of each turning behind it, with new variables."""
    clauses = list(formula.clauses)
    fresh = formula.n + 1
    for turning in turnings:
        more, fresh = first_clauses(turning, fresh)
        clauses += more
    return Formula(fresh - 1, clauses)


def slowly_follows(clauses, clause):
    """Whether the clause follows at once."""
    return slowly_forced(clauses, [-x for x in clause]) is None


def shut_formulas(seed, many):
    """So many random formulas that are shut: every other one with clauses of two or three literals alone."""
    rng = random.Random(seed)
    easy = random_formulas(seed, many * 50, 4, 14, 3)
    for number in range(many):
        formula = next(easy)
        while tried_models(formula):
            formula = next(easy)
        if number % 2:
            formula = Formula(0, ())
            while tried_models(formula):
                n = rng.randint(2, 4)
                clauses = [random_clause(rng, n, 3) for _ in range(rng.randint(6, 40))]
                formula = Formula(n, [clause for clause in clauses if len(clause) > 1])
        yield formula


def random_steps(rng, formula, drops=True):
    """A refutation of a shut formula that goes a crooked way: with adds that are not needed, that come twice, that add
    the empty clause ahead, and with drops."""
    row = list(formula.clauses)
    steps = []
    while not steps or steps[-1] != ("add", ()) or rng.random() < 0.3:
        clause = random_clause(rng, formula.n, 3) if rng.random() < 0.8 else ()
        if slowly_follows(row, clause):
            steps.append(("add", clause))
            row.append(clause)
            if rng.random() < 0.2:
                steps.append(("add", clause))
                row.append(clause)
        if drops and row and rng.random() < 0.2:
            gone = rng.choice(row)
            fewer = list(row)
            fewer.remove(gone)
            if not tried_models(Formula(formula.n, fewer)):
                steps.append(("drop", gone))
                row = fewer
    return tuple(steps)
