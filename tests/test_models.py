"""Point [8]: models."""

import unittest
from itertools import product

from clausehold.errors import Undefined
from clausehold.formulas import Formula
from clausehold.models import first_model, is_model, models
from tests.helpers import (
    ODD_VALUES, Case, broken_formula, counted_formula, nested, parity_formula, random_formulas, tried_models,
)

F = Formula(3, ((1, 2), (-1, 3), (-2, -3)))


class TestIsModel(Case):
    def test_models(self):
        self.assertIs(is_model(F, (1, -2, 3)), True)
        self.assertIs(is_model(F, (-1, 2, -3)), True)
        self.assertIs(is_model(formula=Formula(1, ()), value=(-1,)), True)

    def test_rows_by_which_a_clause_is_not_true(self):
        for row in product((1, -1), (2, -2), (3, -3)):
            self.assertIs(is_model(F, row), row in ((1, -2, 3), (-1, 2, -3)), row)

    def test_values_that_are_no_row_of_all_variables(self):
        for value in ((), (1,), (1, -2), (1, 3), (1, -2, 3, 4), (-2, 1, 3), (1, 3, -2), (1, 1, 3), (1, -1, 3),
                      (1, -2, 3, 3), (1, -2, -4), (0, -2, 3), [1, -2, 3], (True, -2, 3), (1, -2, "3"), (1, -2, None),
                      (1, -2, (3,)), "123", None, 3, True, F, (F, -2, 3), ((1, -2, 3),), {1: 1}):
            self.assertIs(is_model(F, value), False, value)
            self.assertIs(is_model(Formula(3, ()), value), False, value)

    def test_no_variables(self):
        self.assertIs(is_model(Formula(0, ()), ()), True)
        self.assertIs(is_model(Formula(0, ((),)), ()), False)
        for value in ODD_VALUES + (nested(30), nested(30, list)):
            self.assertIs(is_model(Formula(0, ()), value), value == () and isinstance(value, tuple))

    def test_the_empty_clause_is_never_true(self):
        self.assertIs(is_model(Formula(1, ((), (1,))), (1,)), False)

    def test_against_all_rows(self):
        for formula in random_formulas(11, 200, 4):
            found = tried_models(formula)
            for row in product(*[(v, -v) for v in range(1, formula.n + 1)]):
                self.assertIs(is_model(formula, row), row in found)

    def test_many_variables(self):
        formula = Formula(10 ** 12, ((5,), (7, 10 ** 12)))
        self.assertIs(is_model(formula, (1, 2, 3)), False)
        formula = counted_formula(10, 4, 5)
        model = first_model(formula)
        self.assertIs(is_model(formula, model), True)
        self.assertIs(is_model(formula, model[:-1]), False)


class TestModels(Case):
    def test_order(self):
        self.assertSame(models(F), ((1, -2, 3), (-1, 2, -3)))
        self.assertSame(models(Formula(2, ())), ((1, 2), (1, -2), (-1, 2), (-1, -2)))
        self.assertSame(models(formula=Formula(2, ((-1, -2),))), ((1, -2), (-1, 2), (-1, -2)))

    def test_edges(self):
        self.assertSame(models(Formula(0, ())), ((),))
        self.assertSame(models(Formula(0, ((),))), ())
        self.assertSame(models(Formula(2, ((1,), ()))), ())
        self.assertSame(models(Formula(1, ((1,), (-1,)))), ())
        self.assertSame(models(Formula(1, ((-1,), (-1,), (-1,)))), ((-1,),))

    def test_against_all_rows(self):
        for formula in random_formulas(12, 600, 6):
            self.assertSame(models(formula), tried_models(formula))

    def test_ten_variables(self):
        self.assertEqual(len(models(Formula(10, ()))), 1024)
        for formula in random_formulas(13, 15, 10, 40):
            self.assertSame(models(formula), tried_models(formula))

    def test_the_formula_stays_as_it_is(self):
        before = repr((F.n, F.clauses))
        models(F), first_model(F), is_model(F, (1, -2, 3))
        self.assertEqual(repr((F.n, F.clauses)), before)


class TestFirstModel(Case):
    def test_it_is_the_first(self):
        self.assertSame(first_model(F), (1, -2, 3))
        self.assertSame(first_model(Formula(0, ())), ())
        self.assertSame(first_model(Formula(3, ())), (1, 2, 3))
        self.assertSame(first_model(formula=Formula(3, ((-2,),))), (1, -2, 3))

    def test_there_is_none(self):
        for formula in (Formula(1, ((1,), (-1,))), Formula(0, ((),)), Formula(3, ((), (1,))),
                        Formula(2, ((1, 2), (1, -2), (-1, 2), (-1, -2)))):
            self.assertRaisesWith(Undefined, {"what": "model"}, first_model, formula)

    def test_against_all_rows(self):
        for formula in random_formulas(14, 1500, 7, 26):
            found = tried_models(formula)
            if found:
                self.assertSame(first_model(formula), found[0])
            else:
                self.assertRaisesWith(Undefined, {"what": "model"}, first_model, formula)

    def test_more_variables_than_ten(self):
        self.assertEqual(first_model(counted_formula(10, 3, 3))[:10], (1, 2, 3, -4, -5, -6, -7, -8, -9, -10))
        self.assertRaisesWith(Undefined, {"what": "model"}, first_model, counted_formula(8, 4, 3))
        formula = broken_formula(parity_formula(6, (1,)), [(2, 3, 4, 5, 6, 1), (-1, -2, 3, 4, 5, 6)])
        self.assertSame(first_model(formula), models(formula)[0])

    def test_more_variables_against_models(self):
        for formula in random_formulas(15, 120, 12, 50):
            found = models(formula)
            if found:
                self.assertSame(first_model(formula), found[0])
            else:
                self.assertRaisesWith(Undefined, {"what": "model"}, first_model, formula)


if __name__ == "__main__":
    unittest.main()
