"""Points [26] and [27]: clauses that tell how many literals are true."""

import random
import unittest
from itertools import combinations, product

from clausehold.clauses import is_clause
from clausehold.errors import InvalidLiterals, InvalidNumber
from clausehold.formulas import Formula
from clausehold.models import first_model, is_model
from clausehold.solving import is_open
from clausehold.written import at_least_clauses, at_most_clauses, parity_clauses
from tests.helpers import Case, counter_clauses

NO_ROWS = ((2, 1), (1, -1), (1, 1), (0,), (0, 1), [1], [], [1, 2], None, True, 1, "", "1", (True,), (1, None), ((1,),),
           ([1],), (1, True), (False,), {1: 1}, Formula(1, ()))
NO_NUMBERS = (-1, -7, True, False, None, "", "1", (), (1,), [], [1], 1.0, Formula(1, ()))


def rows_of(literals):
    """All rows of values of the variables of literals."""
    return list(product(*[(abs(x), -abs(x)) for x in literals]))


def true_by(clauses, row):
    return all(any(x in row for x in clause) for clause in clauses)


def many_true(literals, row):
    return len([x for x in literals if x in row])


class TestParity(Case):
    def test_clause_by_clause(self):
        self.assertSame(parity_clauses((1, 2), 0), ((1, -2), (-1, 2)))
        self.assertSame(parity_clauses((1, 2), 1), ((1, 2), (-1, -2)))
        self.assertSame(parity_clauses((-1,), 0), ((1,),))
        self.assertSame(parity_clauses(literals=(-1,), bit=1), ((-1,),))
        self.assertSame(parity_clauses((1, -3, 5), 1), ((1, -3, 5), (1, 3, -5), (-1, -3, -5), (-1, 3, 5)))
        self.assertSame(parity_clauses((1, -3, 5), 0), ((1, -3, -5), (1, 3, 5), (-1, -3, 5), (-1, 3, -5)))

    def test_no_literals(self):
        self.assertSame([parity_clauses((), 0), parity_clauses((), 1)], [(), ((),)])

    def test_against_all_rows(self):
        for literals in ((1,), (-4,), (1, -2), (-1, 3, 6), (2, -3, -5, 8), (1, -2, 3, -4, 5)):
            for bit in (0, 1):
                clauses = parity_clauses(literals, bit)
                self.assertEqual(len(clauses), 2 ** (len(literals) - 1))
                for row in rows_of(literals):
                    self.assertIs(true_by(clauses, row), many_true(literals, row) % 2 == bit)

    def test_the_order_is_of_binary_numbers(self):
        for literals in ((1,), (-1, 2), (3, 4, -7), (1, -2, 3, -4)):
            for bit in (0, 1):
                ones = [row for row in product((0, 1), repeat=len(literals)) if sum(row) % 2 == 1 - bit]
                expected = tuple(tuple(-x if one else x for x, one in zip(literals, row)) for row in sorted(ones))
                self.assertSame(parity_clauses(literals, bit), expected)

    def test_ten_literals(self):
        clauses = parity_clauses(tuple(range(1, 11)), 1)
        self.assertEqual(len(clauses), 512)
        self.assertIs(is_open(Formula(10, clauses)), True)
        self.assertIs(is_open(Formula(10, clauses + parity_clauses(tuple(range(1, 11)), 0))), False)

    def test_errors_in_their_order(self):
        for wrong in NO_ROWS:
            for bit in (0, 1, 2, True, None):
                self.assertRaisesWith(InvalidLiterals, {"value": wrong}, parity_clauses, wrong, bit)
        for wrong in NO_NUMBERS + (2, 3, 10 ** 13):
            for literals in ((), (1,), (1, -2)):
                self.assertRaisesWith(InvalidNumber, {"value": wrong}, parity_clauses, literals, wrong)

    def test_any_variables(self):
        self.assertSame(parity_clauses((10 ** 11,), 1), ((10 ** 11,),))


class TestAtMost(Case):
    def test_clause_by_clause(self):
        self.assertSame(at_most_clauses((1, 2), 1, 3), (((-1, 3), (-2, -3)), 4))
        self.assertSame(at_most_clauses((-1, 2, -3), 1, 9), (
            ((1, 9), (-2, 10), (-9, 10), (-2, -9), (3, -10)), 11))
        # s(1, 1) is 5, s(1, 2) is 6, s(2, 1) is 7, s(2, 2) is 8, s(3, 1) is 9, s(3, 2) is 10.
        self.assertSame(at_most_clauses(literals=(1, 2, 3, -4), k=2, fresh=5), ((
            (-1, 5), (-6,),
            (-2, 7), (-5, 7), (-2, -5, 8), (-6, 8), (-2, -6),
            (-3, 9), (-7, 9), (-3, -7, 10), (-8, 10), (-3, -8),
            (4, -10)), 11))

    def test_none_and_all(self):
        self.assertSame(at_most_clauses((1, -2), 0, 3), (((-1,), (2,)), 3))
        self.assertSame(at_most_clauses((1, 2), 2, 3), ((), 3))
        self.assertSame(at_most_clauses((1, 2), 3, 7), ((), 7))
        self.assertSame(at_most_clauses((1, 2), 10 ** 12, 7), ((), 7))
        self.assertSame(at_most_clauses((), 0, 1), ((), 1))
        self.assertSame(at_most_clauses((), 4, 1), ((), 1))
        self.assertSame(at_most_clauses((-3,), 0, 4), (((3,),), 4))
        self.assertSame(at_most_clauses((-3,), 1, 4), ((), 4))

    def test_against_a_slow_writing(self):
        rng = random.Random(81)
        for m in range(2, 8):
            for k in range(1, m):
                variables = sorted(rng.sample(range(1, 15), m))
                literals = tuple(v * rng.choice((1, -1)) for v in variables)
                fresh = variables[-1] + rng.randint(1, 3)
                clauses, behind = counter_clauses(literals, k, fresh)
                self.assertSame(at_most_clauses(literals, k, fresh), (tuple(clauses), behind))
                self.assertTrue(all(is_clause(clause, behind - 1) for clause in clauses))

    def test_values_that_can_be_gone_on_with(self):
        for literals in ((1,), (1, -2), (-1, 2, 3), (1, 2, -3, 4), (1, -2, -3, 4, 5)):
            m = len(literals)
            for k in range(m + 2):
                for write in (at_most_clauses, at_least_clauses):
                    clauses, behind = write(literals, k, m + 1)
                    formula = Formula(behind - 1, clauses)
                    for row in rows_of(literals):
                        many = many_true(literals, row)
                        fits = many <= k if write is at_most_clauses else many >= k
                        self.assertIs(is_open(formula.under(row)), fits, (write, literals, k, row))
                        if fits:
                            self.assertIs(is_model(formula, first_model(formula.under(row))), True)

    def test_errors_in_their_order(self):
        for call in (at_most_clauses, at_least_clauses):
            for wrong in NO_ROWS:
                for k, fresh in ((0, 1), (-1, -1), (None, True), (1, 9)):
                    self.assertRaisesWith(InvalidLiterals, {"value": wrong}, call, wrong, k, fresh)
            for wrong in NO_NUMBERS:
                for fresh in (3, 1, -1, None, True):
                    self.assertRaisesWith(InvalidNumber, {"value": wrong}, call, (1, -2), wrong, fresh)
            for wrong in NO_NUMBERS + (0,):
                for literals, k in (((), 0), ((1, -2), 1), ((1, -2), 0), ((1, -2), 2), ((1,), 3)):
                    self.assertRaisesWith(InvalidNumber, {"value": wrong}, call, literals, k, wrong)
            for literals, fresh in (((1, 2), 2), ((1, 2), 1), ((1, -2), 2), ((-7,), 7), ((-7,), 1), ((1, 2, -9), 8)):
                for k in (0, 1, 2, 5):
                    self.assertRaisesWith(InvalidNumber, {"value": fresh}, call, literals, k, fresh)
            self.assertRaisesWith(InvalidNumber, {"value": -1}, call, (1,), -1, 1)


class TestAtLeast(Case):
    def test_clause_by_clause(self):
        self.assertSame(at_least_clauses((1, 2), 1, 3), (((1, 3), (2, -3)), 4))
        self.assertSame(at_least_clauses((1, -2, 3), 2, 4), (((1, 4), (-2, 5), (-4, 5), (-2, -4), (3, -5)), 6))
        self.assertSame(at_least_clauses(literals=(1, -2), k=2, fresh=3), (((1,), (-2,)), 3))

    def test_none_and_more_than_there_are(self):
        self.assertSame(at_least_clauses((1, 2), 0, 3), ((), 3))
        self.assertSame(at_least_clauses((1, 2), 3, 3), (((),), 3))
        self.assertSame(at_least_clauses((1, 2), 10 ** 12, 5), (((),), 5))
        self.assertSame(at_least_clauses((), 0, 1), ((), 1))
        self.assertSame(at_least_clauses((), 1, 1), (((),), 1))

    def test_at_most_of_the_contraries(self):
        for m in range(1, 7):
            literals = tuple(v if v % 2 else -v for v in range(1, m + 1))
            for k in range(1, m + 1):
                contrary = tuple(-x for x in literals)
                self.assertSame(at_least_clauses(literals, k, m + 4), at_most_clauses(contrary, m - k, m + 4))

    def test_both_together(self):
        literals = tuple(range(1, 9))
        upper, fresh = at_most_clauses(literals, 4, 9)
        lower, behind = at_least_clauses(literals, 4, fresh)
        formula = Formula(behind - 1, upper + lower)
        for four in list(combinations(literals, 4))[:10]:
            row = tuple(v if v in four else -v for v in literals)
            self.assertIs(is_open(formula.under(row)), True)
            self.assertIs(is_open(formula.under(row[:7] + (-row[7],))), False)


if __name__ == "__main__":
    unittest.main()
