"""Point [9]: forced values."""

import random
import unittest

from clausehold.errors import InvalidLiterals
from clausehold.forcing import forced
from clausehold.formulas import Formula
from tests.helpers import (
    ODD_VALUES, Case, broken_formula, counted_formula, parity_formula, random_formulas, random_row, slowly_forced,
)

F = Formula(3, ((1, 2), (-1, 3), (-2, -3)))


class TestForced(Case):
    def test_values_that_follow(self):
        self.assertSame(forced(F, (1,)), (1, -2, 3))
        self.assertSame(forced(F, (2,)), (-1, 2, -3))
        self.assertSame(forced(F, (-3,)), (-1, 2, -3))
        self.assertSame(forced(formula=F, literals=()), ())

    def test_literals_stay_though_nothing_follows(self):
        self.assertSame(forced(Formula(3, ()), (1, -3)), (1, -3))
        self.assertSame(forced(Formula(3, ((1, 2, 3),)), (1,)), (1,))
        self.assertSame(forced(Formula(3, ((1, 2, 3),)), (-1,)), (-1,))

    def test_a_clause_with_all_literals_false(self):
        self.assertIsNone(forced(F, (1, 2)))
        self.assertIsNone(forced(Formula(2, ((1, 2),)), (-1, -2)))
        self.assertIsNone(forced(Formula(1, ((1,), (-1,))), ()))
        self.assertIsNone(forced(Formula(1, ((1,), (-1,))), (1,)))
        self.assertIsNone(forced(Formula(2, ((1, 2), (1, -2))), (-1,)))

    def test_the_empty_clause(self):
        self.assertIsNone(forced(Formula(0, ((),)), ()))
        self.assertIsNone(forced(Formula(2, ((1,), ())), ()))
        self.assertIsNone(forced(Formula(2, ((), ())), (1, 2)))

    def test_no_variables_and_no_clauses(self):
        self.assertSame(forced(Formula(0, ()), ()), ())
        self.assertSame(forced(Formula(2, ()), ()), ())

    def test_clauses_that_come_twice(self):
        self.assertSame(forced(Formula(2, ((1,), (1,), (-1, 2), (-1, 2))), ()), (1, 2))
        self.assertIsNone(forced(Formula(2, ((1, 2), (1, 2))), (-1, -2)))

    def test_shut_though_nothing_is_forced(self):
        formula = Formula(2, ((1, 2), (1, -2), (-1, 2), (-1, -2)))
        self.assertSame(forced(formula, ()), ())
        self.assertIsNone(forced(formula, (1,)))

    def test_a_long_chain(self):
        n = 300
        chain = [(-v, v + 1) for v in range(1, n)]
        for clauses in (chain, chain[::-1]):
            self.assertSame(forced(Formula(n, clauses), (1,)), tuple(range(1, n + 1)))
            self.assertIsNone(forced(Formula(n, clauses + [(-n,)]), (1,)))
            self.assertSame(forced(Formula(n, clauses), (-5,)), (-1, -2, -3, -4, -5))

    def test_the_row_is_in_literal_order(self):
        formula = Formula(10 ** 12, ((10 ** 12,), (-3, -10 ** 12), (2, 3)))
        self.assertSame(forced(formula, (-1,)), (-1, 2, -3, 10 ** 12))

    def test_wrong_literals(self):
        for wrong in ((2, 1), (1, -1), (1, 1), (0,), (4,), (-4,), [1], [], None, True, 1, "", "1", (True,), (1, None),
                      ((1,),), ([1],)):
            self.assertRaisesWith(InvalidLiterals, {"value": wrong}, forced, F, wrong)
        for wrong in ODD_VALUES:
            if wrong != () or not isinstance(wrong, tuple):
                with self.assertRaises(InvalidLiterals) as caught:
                    forced(F, wrong)
                self.assertIs(caught.exception.value, wrong)
        self.assertRaisesWith(InvalidLiterals, {"value": (1,)}, forced, Formula(0, ((),)), (1,))

    def test_against_one_clause_at_a_time(self):
        rng = random.Random(21)
        for formula in random_formulas(22, 1500, 7, 16):
            literals = random_row(rng, formula.n)
            clauses = list(formula.clauses)
            rng.shuffle(clauses)
            true = slowly_forced(clauses, literals)
            expected = None if true is None else tuple(sorted(true, key=abs))
            self.assertSame(forced(formula, literals), expected)

    def test_many_variables(self):
        counted = counted_formula(10, 5, 5)
        self.assertSame(forced(counted, (1, 2, 3, 4, 5))[:10], (1, 2, 3, 4, 5, -6, -7, -8, -9, -10))
        self.assertIsNone(forced(counted, (1, 2, 3, 4, 5, 6)))
        self.assertSame(forced(parity_formula(10, (0,)), tuple(range(1, 10)))[9], 10)
        turned = broken_formula(Formula(4, ()), [(2, 1, 4, 3), (-1, -2, -3, -4)])
        self.assertSame(set(forced(turned, ())) & {1, -1}, {1})


if __name__ == "__main__":
    unittest.main()
