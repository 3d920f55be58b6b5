"""What several tests use: trying all rows of values, small formulas, values of every kind."""

import random
import unittest
from itertools import product

from clausehold.formulas import Formula


class Case(unittest.TestCase):
    def assertRaisesWith(self, error, kept, call, *arguments, **named):
        """The call raises just this error, which keeps these very values."""
        with self.assertRaises(error) as caught:
            call(*arguments, **named)
        self.assertIs(caught.exception.__class__, error)
        have = dict(vars(caught.exception))
        self.assertEqual(sorted(have), sorted(kept))
        for name, value in kept.items():
            self.assertIs(have[name].__class__, value.__class__, name)
            self.assertEqual(have[name], value)

    def assertSame(self, one, other):
        """Both are equal, and of equal kinds throughout."""
        self.assertEqual(repr(one), repr(other))


def tried_models(formula):
    """All models, found by trying all rows of values, in the order of the document."""
    rows = product(*[(v, -v) for v in range(1, formula.n + 1)])
    return tuple(row for row in rows if all(set(clause) & set(row) for clause in formula.clauses))


def random_clause(rng, n, most):
    many = rng.randint(0 if rng.random() < 0.03 else min(1, n), min(n, most))
    return tuple(v * rng.choice((1, -1)) for v in sorted(rng.sample(range(1, n + 1), many)))


def random_row(rng, n):
    return random_clause(rng, n, n) if rng.random() < 0.9 else ()


def random_formulas(seed, many, most_n=5, most_clauses=14, most_literals=3):
    rng = random.Random(seed)
    for _ in range(many):
        n = rng.randint(0, most_n)
        clauses = [random_clause(rng, n, most_literals) for _ in range(rng.randint(0, most_clauses))]
        if clauses and rng.random() < 0.3:
            clauses.append(rng.choice(clauses))
        yield Formula(n, clauses)


# Values of every kind that the document names, none of them a row, claim, paper or step.
ODD_VALUES = (
    0, 1, -1, 10 ** 15, True, False, None, "", "open", "add", "some words", (), [], (()), ((),), [[]], (None,), (True,),
    (1, True), ("add",), ("add", ()), ("drop", ()), (("add", ()), None), [("add", ())], (("add", []),), (["add", ()],),
    (("put", ()),), (("add", (), ()),), (("add",),), ((), ()), ((((),),),), (1, (2, (3, ("x",)))), Formula(1, ()),
    (Formula(1, ()),), ("open", Formula(1, ())), [1], [1, [2]], ("open", ()), ("shut", ()), ("open",), ("open", (), ()),
    ["open", ()], ("open", []), ("open", None), ("open", "1"), ("reasons", (), ()), ("reasons", ()), ("reasons", [], []),
    (True, ()), ((("add", ()),), ()), ((("add", ()),), []), [(("add", ()),), ()], ((("add", ()),), (), ()),
    ((("add", ()),), (True,)), ("shut", (0,)), ("shut", (True,)), ("open", (2, 1)), ("open", (1, -1)),
)


def nested(deep, kind=tuple):
    value = kind()
    for _ in range(deep - 1):
        value = kind([value])
    return value


def changed_anywhere(value, put):
    """All copies of a nested tuple in which one part, or the whole, is put in the place of another value."""
    yield put
    if isinstance(value, tuple):
        for at, part in enumerate(value):
            for other in changed_anywhere(part, put):
                yield value[:at] + (other,) + value[at + 1:]


def listed_anywhere(value):
    """All copies of a nested tuple in which one tuple has become a list."""
    if isinstance(value, tuple):
        yield list(value)
        for at, part in enumerate(value):
            for other in listed_anywhere(part):
                yield value[:at] + (other,) + value[at + 1:]


def true_for_one(value):
    """All copies of a nested tuple in which one 1 has become True."""
    if isinstance(value, tuple):
        for at, part in enumerate(value):
            for other in true_for_one(part):
                yield value[:at] + (other,) + value[at + 1:]
    elif value.__class__ is int and value == 1:
        yield True
