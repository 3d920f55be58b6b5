"""Points [23], [24] and [25]: taking away, and bringing back."""

import random
import unittest

from clausehold.errors import InvalidStep, Undefined
from clausehold.formulas import Formula
from clausehold.models import is_model
from clausehold.taking import brought_back, left_holds, simplified, steps_open, taken, taken_all
from clausehold.written import parity_clauses
from tests.helpers import (
    ODD_VALUES, Case, nested, parity_formula, random_clause, random_formulas, slowly_follows, tried_models,
)

T = Formula(2, ((1,), (1, 2), (-1, 2)))
SQUARE = Formula(2, ((1, 2), (1, -2), (-1, 2), (-1, -2)))
END = (("put", ()),)
KINDS = ("subsumed", "strengthened", "blocked", "unit", "pure", "eliminated")
NO_STEPS = ODD_VALUES + (
    ("subsumed",), ("subsumed", 1), ("subsumed", 1, 0, 0), ("subsumed", True, 0), ("subsumed", 1, False),
    ("subsumed", 3, 0), ("subsumed", 1, -3), ("subsumed", -2, 0), ("subsumed", None, 0), ("subsumed", (1,), (0,)),
    ("subsumed", "1", "0"), ("subsumed", [1], 0), ["subsumed", 1, 0], ("Subsumed", 1, 0), ("", 1, 0), (1, 0),
    ("strengthened", 2, -1), ("strengthened", 2, -1, 0, 0), ("strengthened", 2, -1, False), ("strengthened", 2, 0, 0),
    ("strengthened", -1, -1, 0), ("strengthened", 2, -1, -3), ("strengthened", 3, -1, 0), ("strengthened", 2, "-1", 0),
    ("strengthened", 2, (-1,), 0), ("blocked", 1), ("blocked", 1, 2, 2), ("blocked", True, 2), ("blocked", -2, 2),
    ("blocked", 3, 2), ("blocked", 1, 3), ("blocked", 1, None), ("blocked", 2, 1), ("unit",), ("unit", True),
    ("unit", 0), ("unit", 3), ("unit", (1,)), ("unit", 1, 1), ["unit", 1], ("unit", "1"), ("unit", -1), ("unit", 2),
    ("pure",), ("pure", 0), ("pure", 3), ("pure", -3), ("pure", (2,)), ("pure", 2, 2), ("pure", None), ("pure", 1),
    ("pure", -2), ("eliminated",), ("eliminated", 0), ("eliminated", -1), ("eliminated", 3), ("eliminated", True),
    ("eliminated", (1,)), ("eliminated", 1, 2), ("eliminated", "1"), ("eliminated", None), ("put",), ("put", 1),
    ("put", [2]), ("put", (2, 1)), ("put", (True,)), ("put", (3,)), ("put", (2,), ()), ("put", None), ("put", ()),
    ("put", (-2,)), ("put", (0,)), ("drop", (1,)), ("add", (2,)), (("put", (2,)),), ("left", ()), (None, 1), ((), 1),
    ((1,), "put"), ({}, 1), ([], 1), nested(30), nested(30, list), T, ("put", T), (T, 1), ("eliminated", 1.0),
)


def slowly_taken(formula, step):
    """The clauses that a step in form leaves, told as the document tells it, or None if it cannot be taken."""
    clauses = list(formula.clauses)
    word = step[0]
    if word == "subsumed":
        place, other = step[1:]
        fits = place != other and set(clauses[other]) <= set(clauses[place])
        return clauses[:place] + clauses[place + 1:] if fits else None
    if word == "strengthened":
        place, x, other = step[1:]
        fits = x in clauses[place] and -x in clauses[other] and set(clauses[other]) - {-x} <= set(clauses[place])
        return [tuple(y for y in clause if at != place or y != x) for at, clause in enumerate(clauses)] if fits else None
    if word == "blocked":
        place, x = step[1:]
        others = {-y for y in clauses[place]} - {-x}
        fits = x in clauses[place] and all(set(clause) & others for clause in clauses if -x in clause)
        return clauses[:place] + clauses[place + 1:] if fits else None
    if word in ("unit", "pure"):
        x = step[1]
        flat = [y for clause in clauses for y in clause]
        if not ((x,) in clauses if word == "unit" else x in flat and -x not in flat):
            return None
        return [tuple(y for y in clause if y != -x) for clause in clauses if x not in clause]
    if word == "put":
        return clauses + [step[1]] if slowly_follows(clauses, step[1]) else None
    v = step[1]
    left = [clause for clause in clauses if v not in clause and -v not in clause]
    for one in clauses:
        for other in clauses:
            if v in one and -v in other:
                both = {x for x in one + other if abs(x) != v}
                joined = tuple(sorted(both, key=abs))
                if not any(-x in both for x in both) and joined not in left:
                    left.append(joined)
    return left


def every_step(formula):
    """All steps in form but puts, in the order of the document."""
    places = range(len(formula))
    literals = [x for v in range(1, formula.n + 1) for x in (v, -v)]
    steps = [("subsumed", i, j) for i in places for j in places]
    steps += [("strengthened", i, x, j) for i in places for x in literals for j in places]
    steps += [("blocked", i, x) for i in places for x in literals]
    steps += [("unit", x) for x in literals] + [("pure", x) for x in literals]
    return steps + [("eliminated", v) for v in range(1, formula.n + 1)]


def slowly_back(formula, steps, model):
    """The model that comes back, told as the document tells it."""
    stages = [formula]
    for step in steps:
        stages.append(Formula(formula.n, slowly_taken(stages[-1], step)))
    true = set(model)
    for stage, step in list(zip(stages, steps))[::-1]:
        word = step[0]
        if word == "blocked":
            if not set(stage.clauses[step[1]]) & true:
                true = true - {-step[2]} | {step[2]}
        elif word in ("unit", "pure"):
            true = true - {-step[1]} | {step[1]}
        elif word == "eliminated":
            v = step[1]
            must = any(v in clause and not (set(clause) - {v}) & true for clause in stage.clauses)
            true = true - {v, -v} | {v if must else -v}
    return tuple(sorted(true, key=abs))


def random_walk(rng, formula, most=7):
    """Steps that can be taken, one behind the other, of any kind."""
    steps = []
    for _ in range(rng.randint(0, most)):
        able = [step for step in every_step(formula) if slowly_taken(formula, step) is not None]
        clause = random_clause(rng, formula.n, 3)
        if slowly_follows(formula.clauses, clause) and rng.random() < 0.5:
            able = [("put", clause)]
        if not able:
            break
        word = rng.choice(sorted({step[0] for step in able}))
        steps.append(rng.choice([step for step in able if step[0] == word]))
        formula = Formula(formula.n, slowly_taken(formula, steps[-1]))
    return tuple(steps), formula


def parity_rows(seed, many):
    """Formulas of parities of three of six variables, of which much is left when they are simplified."""
    rng = random.Random(seed)
    for _ in range(many):
        clauses = []
        for _ in range(rng.randint(3, 6)):
            literals = tuple(sorted(rng.sample(range(1, 7), 3)))
            clauses += parity_clauses(literals, rng.randint(0, 1))
        clauses += [random_clause(rng, 6, 4) for _ in range(rng.randint(0, 2))]
        rng.shuffle(clauses)
        yield Formula(6, clauses)


class TestTaken(Case):
    def left(self, formula, step, clauses):
        out = taken(formula, step)
        self.assertIs(out.__class__, Formula)
        self.assertSame((out.n, out.clauses), (formula.n, clauses))

    def not_taken(self, formula, *steps):
        for step in steps:
            self.assertRaisesWith(InvalidStep, {"step": step}, taken, formula, step)

    def test_each_kind(self):
        self.left(T, ("subsumed", 1, 0), ((1,), (-1, 2)))
        self.left(T, ("strengthened", 2, -1, 0), ((1,), (1, 2), (2,)))
        self.left(T, ("strengthened", 1, 1, 2), ((1,), (2,), (-1, 2)))
        self.left(T, ("blocked", 1, 2), ((1,), (-1, 2)))
        self.left(T, ("unit", 1), ((2,),))
        self.left(T, ("pure", 2), ((1,),))
        self.left(T, ("eliminated", 1), ((2,),))
        self.left(T, ("eliminated", 2), ((1,),))
        self.left(T, ("put", (2,)), ((1,), (1, 2), (-1, 2), (2,)))
        self.assertSame(taken(formula=T, step=("unit", 1)).clauses, ((2,),))

    def test_what_is_no_step_here(self):
        self.not_taken(T, *NO_STEPS)
        for step in (("subsumed", 0, 0), ("blocked", 0, 1), ("unit", 1), ("pure", 1), ("eliminated", 1), ("put", (1,)),
                     ("strengthened", 0, 1, 0), ("put", ())):
            self.not_taken(Formula(0, ()), step)
        self.not_taken(Formula(1, ()), ("unit", 1), ("pure", 1), ("pure", -1), ("put", (1,)), ("put", ()))

    def test_subsumed(self):
        formula = Formula(3, ((1, 2), (1, 2, 3), (1, 2), (1, -2, 3), ()))
        self.left(formula, ("subsumed", 1, 0), ((1, 2), (1, 2), (1, -2, 3), ()))
        self.left(formula, ("subsumed", 0, 2), ((1, 2, 3), (1, 2), (1, -2, 3), ()))
        self.left(formula, ("subsumed", 2, 0), ((1, 2), (1, 2, 3), (1, -2, 3), ()))
        self.left(formula, ("subsumed", 3, 4), ((1, 2), (1, 2, 3), (1, 2), ()))
        self.not_taken(formula, ("subsumed", 0, 1), ("subsumed", 0, 0), ("subsumed", 4, 4), ("subsumed", 3, 0),
                       ("subsumed", 4, 0), ("subsumed", 3, 1), ("subsumed", 0, 5), ("subsumed", 5, 0))

    def test_strengthened(self):
        formula = Formula(3, ((1, 2, 3), (-1, 2), (-1,), (1, -3), (-1, 2)))
        self.left(formula, ("strengthened", 0, 1, 1), ((2, 3), (-1, 2), (-1,), (1, -3), (-1, 2)))
        self.left(formula, ("strengthened", 0, 1, 2), ((2, 3), (-1, 2), (-1,), (1, -3), (-1, 2)))
        self.left(formula, ("strengthened", 0, 3, 3), ((1, 2), (-1, 2), (-1,), (1, -3), (-1, 2)))
        self.left(formula, ("strengthened", 3, 1, 2), ((1, 2, 3), (-1, 2), (-1,), (-3,), (-1, 2)))
        # The other literals of the other clause are not all there; the literal is not; the contrary is not.
        self.not_taken(formula, ("strengthened", 3, 1, 1), ("strengthened", 2, -1, 0), ("strengthened", 1, -1, 0),
                       ("strengthened", 0, -1, 0), ("strengthened", 0, 2, 1), ("strengthened", 0, 1, 0),
                       ("strengthened", 0, 1, 3), ("strengthened", 0, -1, 2), ("strengthened", 2, 1, 3),
                       ("strengthened", 0, 1, 5))
        self.left(Formula(1, ((1,), (-1,))), ("strengthened", 0, 1, 1), ((), (-1,)))

    def test_blocked(self):
        formula = Formula(3, ((1, 2), (-1, -2), (-1, -2, 3), (-3,)))
        self.left(formula, ("blocked", 0, 1), ((-1, -2), (-1, -2, 3), (-3,)))
        self.left(formula, ("blocked", 0, 2), ((-1, -2), (-1, -2, 3), (-3,)))
        self.left(formula, ("blocked", 1, -1), ((1, 2), (-1, -2, 3), (-3,)))
        self.not_taken(formula, ("blocked", 2, 3), ("blocked", 3, -3), ("blocked", 0, 3), ("blocked", 0, -1),
                       ("blocked", 3, 3), ("blocked", 4, 1))
        # One of several clauses with the contrary has no other contrary, or has it of the same literal alone.
        self.not_taken(formula.with_clause((-1,)), ("blocked", 0, 1))
        self.not_taken(formula.with_clause((-1, 2)), ("blocked", 0, 1))
        self.not_taken(formula.with_clause((-1, 3)), ("blocked", 0, 1))
        # No clause with the contrary.
        self.left(Formula(2, ((1, 2), (1,))), ("blocked", 1, 1), ((1, 2),))
        self.left(Formula(1, ((-1,), (-1,))), ("blocked", 0, -1), ((-1,),))

    def test_unit(self):
        formula = Formula(3, ((-1, 2), (1,), (2, 3), (1, -2), (-1,), (-1, -3), (1,)))
        self.left(formula, ("unit", 1), ((2,), (2, 3), (), (-3,)))
        self.left(formula, ("unit", -1), ((), (2, 3), (-2,), ()))
        self.not_taken(formula, ("unit", 2), ("unit", 3), ("unit", -3), ("unit", -2))
        self.not_taken(Formula(1, ((),)), ("unit", 1), ("unit", -1))

    def test_pure(self):
        formula = Formula(4, ((-1, 2), (-1, 3), (2, -3), (-1,)))
        self.left(formula, ("pure", -1), ((2, -3),))
        self.left(formula, ("pure", 2), ((-1, 3), (-1,)))
        self.not_taken(formula, ("pure", 1), ("pure", 3), ("pure", -3), ("pure", -2), ("pure", 4), ("pure", -4))

    def test_eliminated(self):
        formula = Formula(4, ((1, 2), (3,), (-1, 4), (1, -4), (-1, 3), (-1, 4)))
        self.left(formula, ("eliminated", 1), ((3,), (2, 4), (2, 3), (3, -4)))
        self.left(formula, ("eliminated", 2), ((3,), (-1, 4), (1, -4), (-1, 3), (-1, 4)))
        self.left(formula, ("eliminated", 4), ((1, 2), (3,), (-1, 3)))
        self.not_taken(formula, ("eliminated", 5), ("eliminated", 0), ("eliminated", -1))

    def test_eliminated_of_no_clause(self):
        formula = Formula(3, ((1, 2), (1, 2)))
        self.left(formula, ("eliminated", 3), ((1, 2), (1, 2)))
        self.left(Formula(1, ()), ("eliminated", 1), ())

    def test_eliminated_makes_what_stands_or_comes_twice(self):
        formula = Formula(3, ((1, 2), (-1, 3), (2, 3)))
        self.left(formula, ("eliminated", 1), ((2, 3),))
        twice = Formula(3, ((1, 2), (1, 2), (-1, 3), (-1, 3), (2, -3), (2, -3)))
        self.left(twice, ("eliminated", 1), ((2, -3), (2, -3), (2, 3)))
        self.left(Formula(2, ((1,), (-1,))), ("eliminated", 1), ((),))
        self.left(Formula(2, ((1,), (-1,), (), (1,))), ("eliminated", 1), ((),))
        both = Formula(3, ((1, 2), (-1, -2), (1, 3), (-1, -3)))
        self.left(both, ("eliminated", 1), ((2, -3), (-2, 3)))

    def test_put(self):
        formula = Formula(3, ((1, 2), (-1, 3), (-2, 3)))
        self.left(formula, ("put", (3,)), formula.clauses + ((3,),))
        self.left(formula, ("put", (1, 2, 3)), formula.clauses + ((1, 2, 3),))
        self.left(formula, ("put", (1, 2)), formula.clauses + ((1, 2),))
        self.not_taken(formula, ("put", (1,)), ("put", ()), ("put", (-3,)), ("put", (1, -2)))
        # It follows, but not at once.
        cube = Formula(3, [(a, 2 * b, 3 * c) for a in (1, -1) for b in (1, -1) for c in (1, -1)])
        self.not_taken(cube, ("put", ()), ("put", (1,)))
        self.left(cube, ("put", (1, 2)), cube.clauses + ((1, 2),))
        self.left(Formula(2, ((),)), ("put", (-1, 2)), ((), (-1, 2)))

    def test_against_the_words_of_the_document(self):
        rng = random.Random(111)
        for formula in random_formulas(112, 250, 3, 6):
            for step in every_step(formula) + [("put", random_clause(rng, formula.n, 2)) for _ in range(4)]:
                clauses = slowly_taken(formula, step)
                if clauses is None:
                    self.not_taken(formula, step)
                else:
                    self.left(formula, step, tuple(clauses))
                    self.assertEqual(bool(tried_models(formula)), bool(tried_models(Formula(formula.n, clauses))))


class TestStepsOpen(Case):
    def test_in_order(self):
        self.assertSame(steps_open(formula=T), (
            ("subsumed", 1, 0), ("strengthened", 1, 1, 2), ("strengthened", 2, -1, 0), ("strengthened", 2, -1, 1),
            ("blocked", 1, 2), ("blocked", 2, 2), ("unit", 1), ("pure", 2), ("eliminated", 1), ("eliminated", 2)))
        self.assertSame(steps_open(Formula(2, ((-2,), (2,)))), (
            ("strengthened", 0, -2, 1), ("strengthened", 1, 2, 0), ("unit", 2), ("unit", -2), ("eliminated", 1),
            ("eliminated", 2)))

    def test_edges(self):
        self.assertSame(steps_open(Formula(0, ())), ())
        self.assertSame(steps_open(Formula(0, ((),))), ())
        self.assertSame(steps_open(Formula(0, ((), ()))), (("subsumed", 0, 1), ("subsumed", 1, 0)))
        self.assertSame(steps_open(Formula(2, ())), (("eliminated", 1), ("eliminated", 2)))

    def test_against_all_steps(self):
        seen = set()
        for formula in random_formulas(113, 300, 4, 7):
            expected = tuple(step for step in every_step(formula) if slowly_taken(formula, step) is not None)
            self.assertSame(steps_open(formula), expected)
            seen |= {step[0] for step in expected}
        self.assertEqual(seen, set(KINDS))

    def test_many_clauses(self):
        rng = random.Random(114)
        formula = Formula(10, [random_clause(rng, 10, 4) for _ in range(40)])
        expected = tuple(step for step in every_step(formula) if slowly_taken(formula, step) is not None)
        self.assertSame(steps_open(formula), expected)

    def test_the_formula_stays_as_it_is(self):
        before = repr((T.n, T.clauses))
        steps = [("unit", 1), ("pure", 2)]
        taken(T, steps[0]), steps_open(T), taken_all(T, steps), brought_back(T, steps, (-1, -2)), simplified(T)
        left_holds(T, ("left", ()), tuple(steps))
        self.assertEqual(repr((T.n, T.clauses)), before)
        self.assertSame(steps, [("unit", 1), ("pure", 2)])


class TestTakenAll(Case):
    def test_one_behind_the_other(self):
        self.assertSame(taken_all(T, (("subsumed", 1, 0), ("unit", 1))).clauses, ((2,),))
        self.assertSame(taken_all(formula=T, steps=[("unit", 1), ("pure", 2)]).clauses, ())
        for steps in ((), []):
            self.assertIs(taken_all(T, steps) == T, True)

    def test_the_first_that_cannot_be_taken(self):
        for steps, at in (((("subsumed", 1, 0), ("pure", 1)), 1), ((("unit", 1), ("unit", 1)), 1), ((("pure", 1),), 0),
                          ((("put", (2,)), ("put", (2,)), ("subsumed", 4, 5)), 2), ((("pure", 1), None), 0),
                          ([("unit", 1), ("pure", -2), ("pure", 2)], 1), ((("unit", 1), ["pure", 2]), 1)):
            self.assertRaisesWith(InvalidStep, {"step": steps[at]}, taken_all, T, steps)
            for model in ((), (1, 2), None):
                self.assertRaisesWith(InvalidStep, {"step": steps[at]}, brought_back, T, steps, model)
        for wrong in NO_STEPS:
            self.assertRaisesWith(InvalidStep, {"step": wrong}, taken_all, T, (wrong, ("unit", 7)))
            self.assertRaisesWith(InvalidStep, {"step": wrong}, brought_back, T, [wrong], (1, 2))

    def test_many_puts_and_others_between(self):
        steps = (("put", (2,)), ("subsumed", 1, 3), ("put", (2,)), ("put", (1, 2)), ("strengthened", 4, 1, 1))
        self.assertSame(taken_all(T, steps).clauses, ((1,), (-1, 2), (2,), (2,), (2,)))
        # What follows does so from the clauses that are there then.
        self.assertRaisesWith(InvalidStep, {"step": ("put", (1,))}, taken_all, T,
                              (("put", (2,)), ("unit", 1), ("put", (2,)), ("put", (1,))))
        self.assertRaisesWith(InvalidStep, {"step": ("put", (1, 2))}, taken_all, Formula(2, ((1, 2), (1, 2))),
                              (("put", (1, 2)), ("pure", 2), ("put", (1, 2))))

    def test_random_walks(self):
        rng = random.Random(115)
        for formula in random_formulas(116, 150, 4, 6):
            steps, left = random_walk(rng, formula)
            out = taken_all(formula, list(steps))
            self.assertSame((out.n, out.clauses), (left.n, left.clauses))
            self.assertHolds(left_holds, formula, ("left", left.clauses), steps)


class TestBroughtBack(Case):
    def test_each_kind(self):
        self.assertSame(brought_back(T, (("unit", 1), ("pure", 2)), (-1, -2)), (1, 2))
        self.assertSame(brought_back(formula=T, steps=[("subsumed", 1, 0)], model=(1, 2)), (1, 2))
        self.assertSame(brought_back(T, (("strengthened", 2, -1, 0),), (1, 2)), (1, 2))
        self.assertSame(brought_back(T, (("put", (2,)),), (1, 2)), (1, 2))
        self.assertSame(brought_back(T, (), (1, 2)), (1, 2))
        self.assertSame(brought_back(Formula(0, ()), (), ()), ())

    def test_blocked(self):
        formula = Formula(2, ((1, 2), (-1, -2)))
        self.assertSame(brought_back(formula, (("blocked", 0, 1),), (-1, -2)), (1, -2))
        self.assertSame(brought_back(formula, (("blocked", 0, 2),), (-1, -2)), (-1, 2))
        self.assertSame(brought_back(formula, (("blocked", 0, 1),), (-1, 2)), (-1, 2))
        self.assertSame(brought_back(formula, (("blocked", 0, 1),), (1, -2)), (1, -2))
        self.assertSame(brought_back(formula, (("blocked", 1, -1),), (1, 2)), (-1, 2))

    def test_unit_and_pure(self):
        formula = Formula(3, ((-1,), (1, -2), (-1, -2)))
        for model in ((1, -2, 3), (-1, -2, 3)):
            self.assertSame(brought_back(formula, (("unit", -1),), model), (-1, -2, 3))
        for model in ((-1, 2, 3), (-1, -2, 3)):
            self.assertSame(brought_back(formula, (("pure", -2),), model), (-1, -2, 3))

    def test_eliminated(self):
        formula = Formula(3, ((1, 2), (-1, 3), (1, 2, 3)))
        for model, back in (((1, 2, 3), (-1, 2, 3)), ((-1, -2, 3), (1, -2, 3)), ((1, -2, 3), (1, -2, 3)),
                            ((-1, 2, -3), (-1, 2, -3)), ((1, 2, -3), (-1, 2, -3))):
            self.assertSame(brought_back(formula, (("eliminated", 1),), model), back)
        # A variable of no clause becomes false, one of contraries alone too, one that stands alone true.
        self.assertSame(brought_back(Formula(1, ()), (("eliminated", 1),), (1,)), (-1,))
        self.assertSame(brought_back(Formula(1, ((-1,),)), (("eliminated", 1),), (1,)), (-1,))
        self.assertSame(brought_back(Formula(1, ((1,),)), (("eliminated", 1),), (-1,)), (1,))

    def test_from_the_last_step_back_to_the_first(self):
        formula = Formula(2, ((1, 2), (-1, 2), (1, -2)))
        steps = (("eliminated", 1), ("eliminated", 2))
        self.assertSame(brought_back(formula, steps, (-1, -2)), (1, 2))
        # With the steps gone back the other way 1 would be made true for want of 2.
        other = Formula(2, ((1, 2), (2,), (-1, -2)))
        self.assertSame(brought_back(other, (("blocked", 0, 1), ("unit", 2)), (-1, -2)), (-1, 2))

    def test_no_model_of_what_is_left(self):
        for model in ((1, -2), (2, 1), (1,), (), (1, 2, 3), [1, 2], None, True, (True, 2), "", T, 1, ((1, 2),), nested(30)):
            self.assertRaisesWith(Undefined, {"what": "model"}, brought_back, T, (("put", (2,)),), model)
        self.assertRaisesWith(Undefined, {"what": "model"}, brought_back, T, (("unit", 1),), (1, -2))
        self.assertRaisesWith(Undefined, {"what": "model"}, brought_back, SQUARE, (), (1, 2))
        self.assertRaisesWith(Undefined, {"what": "model"}, brought_back, Formula(0, ((),)), (), ())

    def test_against_the_words_of_the_document(self):
        rng = random.Random(117)
        kinds = set()
        for formula in random_formulas(118, 300, 4, 6):
            steps, left = random_walk(rng, formula)
            found = tried_models(left)
            self.assertEqual(bool(found), bool(tried_models(formula)))
            for model in found:
                back = brought_back(formula, steps, model)
                self.assertSame(back, slowly_back(formula, steps, model))
                self.assertIs(is_model(formula, back), True)
                kinds |= {step[0] for step in steps}
        self.assertEqual(kinds, set(KINDS) | {"put"})


class TestSimplified(Case):
    def test_nothing_is_left_to_take(self):
        edges = [T, SQUARE, Formula(0, ()), Formula(0, ((), ()))]
        for formula in list(random_formulas(119, 400, 5, 10)) + edges + list(parity_rows(121, 40)):
            left, steps = simplified(formula)
            self.assertIs(left.__class__, Formula)
            self.assertIs(steps.__class__, tuple)
            self.assertIs(taken_all(formula, steps) == left, True)
            for step in every_step(left):
                clauses = slowly_taken(left, step)
                if clauses is not None:
                    self.assertEqual(step[0], "eliminated")
                    self.assertGreaterEqual(len(clauses), len(left))
            self.assertHolds(left_holds, formula, ("left", left.clauses), steps)
            self.assertSame(simplified(formula)[1], steps)
            self.assertEqual(bool(tried_models(left)), bool(tried_models(formula)))
            for model in tried_models(left):
                self.assertIs(is_model(formula, brought_back(formula, steps, model)), True)

    def test_elimination_where_it_leaves_fewer(self):
        formula = Formula(5, ((1, 2), (1, 3), (-1, 4, 5), (-2, -4), (-3, -5), (2, 3), (4, -5), (-4, 5), (-2, -3)))
        left, steps = simplified(formula=formula)
        self.assertIn("eliminated", [step[0] for step in steps])
        self.assertHolds(left_holds, formula, ("left", left.clauses), steps)

    def test_a_clause_is_strengthened_where_nothing_else_can_be_taken(self):
        formula = Formula(6, (
            (2, -4, -5), (-1, -2, -6), (-1, -5, 6), (1, -2, 6), (3, -4, -5), (-1, 3, 6), (-2, -4, 5), (2, 4, 5),
            (-1, -3, -6), (1, -3, 6), (1, 2, -6), (3, 4, 5), (1, 5, 6), (-1, 2, 6), (-3, 4, -5), (1, -5, -6), (-2, 4, -5),
            (1, 3, -6), (-3, -4, 5), (-1, 5, -6)))
        left, steps = simplified(formula)
        self.assertIn("strengthened", [step[0] for step in steps])
        self.assertEqual([step for step in steps_open(left) if step[0] != "eliminated"], [])

    def test_what_stays(self):
        parity = Formula(4, parity_formula(4, (1,)).clauses)
        left, steps = simplified(parity)
        self.assertTrue(all(step[0] != "eliminated" or len(taken(left, step)) >= len(left) for step in steps_open(left)))
        shut = parity_formula(3, (0, 1))
        self.assertEqual(bool(tried_models(simplified(shut)[0])), False)

    def test_many_clauses(self):
        rng = random.Random(120)
        for most in (2, 3, 5, 10):
            formula = Formula(10, [random_clause(rng, 10, most) for _ in range(40)])
            left, steps = simplified(formula)
            self.assertHolds(left_holds, formula, ("left", left.clauses), steps)


class TestLeftHolds(Case):
    def holds(self, formula, left, steps):
        return left_holds(formula, ("left", left), steps)

    def test_papers(self):
        self.assertIs(self.holds(T, ((2,),), (("unit", 1),)), True)
        self.assertIs(left_holds(formula=T, claim=("left", ((2,),)), paper=(("unit", 1),)), True)
        self.assertIs(self.holds(T, T.clauses, ()), True)
        self.assertIs(self.holds(Formula(0, ()), (), ()), True)
        self.assertIs(self.holds(T, (), (("unit", 1), ("pure", 2))), True)
        self.assertIs(self.holds(SQUARE, SQUARE.clauses + ((1,), ()), (("put", (1,)), ("put", ()))), True)

    def test_just_these_clauses_in_order(self):
        steps = (("put", (2,)),)
        self.assertIs(self.holds(T, T.clauses + ((2,),), steps), True)
        for left in (T.clauses, ((2,),) + T.clauses, T.clauses + ((2,), (2,)), T.clauses[::-1] + ((2,),), ((2,),), (),
                     T.clauses[1:] + ((2,),)):
            self.assertIs(self.holds(T, left, steps), False)

    def test_steps_that_cannot_be_taken(self):
        for steps in ((("pure", 1),), (("unit", 1), ("unit", 1)), (("put", (2,)), ("put", (-2,))), (("unit", 1), ()),
                      (("subsumed", 0, 1),)):
            for left in (T.clauses, ((2,),), (), T.clauses + ((2,),)):
                self.assertIs(self.holds(T, left, steps), False)

    def test_true_claims_without_a_paper(self):
        self.assertIs(self.holds(T, ((1, -2),), (("unit", 1),)), False)
        self.assertIs(self.holds(T, ((2, ), (2,)), (("unit", 1),)), False)

    def test_papers_of_another_formula(self):
        self.assertIs(self.holds(T.without(0), ((2,),), (("unit", 1),)), False)
        self.assertIs(self.holds(Formula(3, T.clauses), ((2,),), (("unit", 1),)), True)
        self.assertIs(self.holds(Formula(2, ((1,), (-1, 2, ), (-2,))), ((2,),), (("unit", 1),)), False)

    def test_odd_claims_and_papers(self):
        steps = (("subsumed", 1, 0), ("strengthened", 1, -1, 0), ("put", (2,)))
        self.assertLooksClosely(left_holds, T, ("left", ((1,), (2,), (2,))), steps)
        self.assertLooksClosely(left_holds, T, ("left", ()), (("unit", 1), ("pure", 2)))
        formula = Formula(3, ((1, 2), (-1, -2), (1, 3)))
        self.assertLooksClosely(left_holds, formula, ("left", ((-2, 3),)), (("blocked", 0, 2), ("eliminated", 1)))
        for claim in (("left",), ("left", ((2,),), ()), ("Left", ((2,),)), (((2,),), "left"), ("left", (2,)), ("left", 2),
                      ("left", ((2, 1),)), ("left", ((3,),)), ("left", [(2,)]), ("open", ()), ("left", ((2,), 1))):
            self.assertNot(left_holds, T, claim, (("unit", 1),))
        for paper in (("unit", 1), [("unit", 1)], (["unit", 1],), ((("unit", 1),),), None, "unit", 1, (("unit", 1), None)):
            self.assertNot(left_holds, T, ("left", ((2,),)), paper)
        for wrong in NO_STEPS:
            self.assertNot(left_holds, T, ("left", ((2,),)), (wrong, ("unit", 1)))
            self.assertNot(left_holds, T, ("left", ((2,),)), (("unit", 1), wrong))
            self.assertNot(left_holds, T, ("left", T.clauses), (wrong,))
            self.assertNot(left_holds, T, ("left", wrong), (("unit", 1),))

    def test_long_papers(self):
        steps = tuple(("put", SQUARE.clauses[at % 4]) for at in range(4000))
        left = SQUARE.clauses * 1001
        self.assertIs(self.holds(SQUARE, left, steps), True)
        self.assertIs(self.holds(SQUARE, left[:-1], steps), False)
        self.assertIs(self.holds(Formula(10, ()), (), (("eliminated", 7),) * 4000), True)


if __name__ == "__main__":
    unittest.main()
