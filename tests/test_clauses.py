"""Points [1], [5] and, for agrees, [8]."""

import unittest
from itertools import product

from clausehold.clauses import agrees, clause_of, is_clause
from clausehold.errors import InvalidLiterals
from clausehold.formulas import Formula
from tests.helpers import ODD_VALUES, Case, nested


class TestIsClause(Case):
    def test_clauses(self):
        for clause in ((), (1,), (-1,), (3,), (1, 2), (-1, 2), (1, -2, 3), (-1, -2, -3)):
            self.assertIs(is_clause(clause, 3), True, clause)

    def test_members_out_of_order_twice_or_with_a_contrary(self):
        for value in ((2, 1), (-2, 1), (1, 1), (1, -1), (-1, 1), (1, 3, 2), (1, 2, -2)):
            self.assertIs(is_clause(value, 3), False, value)

    def test_literals_beyond_n_and_zero(self):
        for value in ((4,), (-4,), (1, 4), (0,), (0, 1), (-1, 0)):
            self.assertIs(is_clause(value, 3), False, value)

    def test_the_empty_clause_stands_for_n_0_alone(self):
        self.assertIs(is_clause((), 0), True)
        for value in ((1,), (-1,), (0,), [], None, ""):
            self.assertIs(is_clause(value, 0), False)

    def test_values_of_other_kinds(self):
        for value in ([], [1], [1, 2], None, True, False, 0, 1, "", "1", Formula(1, ()), (True,), (False,), (1, True),
                      (True, 2), ((1,),), ([1],), (None,), ("1",), (1, "2"), (1, None), (Formula(1, ()),)):
            self.assertIs(is_clause(value, 3), False, value)
        self.assertIs(is_clause(nested(30), 3), False)
        self.assertIs(is_clause(nested(30, list), 3), False)

    def test_the_odd_values_raise_nothing(self):
        for value in ODD_VALUES:
            self.assertIs(is_clause(value, 2), value == () and isinstance(value, tuple))

    def test_against_the_words_of_the_document(self):
        literals = range(-3, 4)
        for size in range(4):
            for value in product(literals, repeat=size):
                variables = [abs(x) for x in value]
                expected = all(0 < v <= 2 for v in variables) and variables == sorted(set(variables))
                self.assertIs(is_clause(value, 2), expected, value)

    def test_parameter_names(self):
        self.assertIs(is_clause(value=(1,), n=1), True)


class TestClauseOf(Case):
    def test_literals_are_put_in_order_each_once(self):
        self.assertSame(clause_of((2, -1, 2)), (-1, 2))
        self.assertSame(clause_of([3, -2, 1, -2, 3]), (1, -2, 3))
        self.assertSame(clause_of([]), ())
        self.assertSame(clause_of(()), ())
        self.assertSame(clause_of([-10 ** 14, 5]), (5, -10 ** 14))

    def test_a_literal_with_its_contrary_makes_none(self):
        for literals in ((1, -1), (-1, 1), [2, 1, -2], (1, 1, -1)):
            self.assertIsNone(clause_of(literals))

    def test_wrong_values(self):
        for value in (None, True, 1, "", "12", [0], (0,), (1, 0), (1, -1, 0), [True], (1, True), (1, None), ("1",),
                      ((1,),), [[1]], ([],), (1.5,)):
            self.assertRaisesWith(InvalidLiterals, {"value": value}, clause_of, value)

    def test_an_object_as_literals(self):
        formula = Formula(1, ())
        with self.assertRaises(InvalidLiterals) as caught:
            clause_of(formula)
        self.assertIs(caught.exception.value, formula)

    def test_the_error_keeps_the_list_itself(self):
        handed = [1, 0]
        with self.assertRaises(InvalidLiterals) as caught:
            clause_of(literals=handed)
        self.assertIs(caught.exception.value, handed)

    def test_the_argument_stays_as_it_is(self):
        handed = [2, 1, 2]
        made = clause_of(handed)
        self.assertEqual(handed, [2, 1, 2])
        handed.append(3)
        self.assertEqual(made, (1, 2))

    def test_against_the_words_of_the_document(self):
        for size in range(5):
            for literals in product((1, -1, 2, -2, 3), repeat=size):
                got = clause_of(literals)
                if any(-x in literals for x in literals):
                    self.assertIsNone(got)
                else:
                    self.assertTrue(is_clause(got, 3))
                    self.assertEqual(set(got), set(literals))


class TestAgrees(Case):
    def test_all_literals_are_in_the_model(self):
        self.assertIs(agrees((1, 3), (1, -2, 3)), True)
        self.assertIs(agrees((1, -2, 3), (1, -2, 3)), True)
        self.assertIs(agrees((), (1, -2, 3)), True)
        self.assertIs(agrees((), ()), True)

    def test_some_literal_is_not(self):
        self.assertIs(agrees((2,), (1, -2, 3)), False)
        self.assertIs(agrees((1, 2), (1, -2, 3)), False)
        self.assertIs(agrees((-1,), (1,)), False)
        self.assertIs(agrees((4,), (1, -2, 3)), False)
        self.assertIs(agrees((1,), ()), False)

    def test_the_model_may_be_any_row(self):
        self.assertIs(agrees((2,), (2, 5)), True)
        self.assertIs(agrees((2, 5), (2,)), False)

    def test_parameter_names(self):
        self.assertIs(agrees(literals=(1,), model=(1,)), True)


if __name__ == "__main__":
    unittest.main()
