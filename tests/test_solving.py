"""Points [10] and [11], and what point [2] says of looking functions."""

import random
import unittest

from clausehold.clauses import agrees
from clausehold.errors import InvalidLiterals
from clausehold.formulas import Formula
from clausehold.models import is_model
from clausehold.solving import is_open, open_claim, open_holds, open_paper
from tests.helpers import (
    ODD_VALUES, Case, broken_formula, changed_anywhere, counted_formula, listed_anywhere, nested, parity_formula,
    random_clause, random_formulas, random_row, slowly_refutes, tried_models, true_for_one,
)

F = Formula(3, ((1, 2), (-1, 3), (-2, -3)))
G = Formula(1, ((1,), (-1,)))
SQUARE = Formula(2, ((1, 2), (1, -2), (-1, 2), (-1, -2)))
END = (("add", ()),)
WRONG_ROWS = ((2, 1), (1, -1), (1, 1), (0,), (4,), (-4,), [1], [], None, True, 1, "", "1", (True,), (1, None), ((1,),),
              ([1],), (1, 0), (1, 2, 3, 4))


class TestClaims(Case):
    def test_open_and_shut(self):
        self.assertSame([is_open(F), is_open(G), is_open(formula=SQUARE)], [True, False, False])
        self.assertSame(open_claim(F, (2,)), ("open", (2,)))
        self.assertSame(open_claim(F, (1, 2)), ("shut", (1, 2)))
        self.assertSame(open_claim(formula=F, literals=()), ("open", ()))
        self.assertSame(open_claim(SQUARE, ()), ("shut", ()))

    def test_edges(self):
        self.assertSame([is_open(Formula(0, ())), is_open(Formula(0, ((),))), is_open(Formula(4, ()))],
                        [True, False, True])
        self.assertSame(open_claim(Formula(0, ()), ()), ("open", ()))
        self.assertSame(open_claim(Formula(0, ((),)), ()), ("shut", ()))
        self.assertSame(open_claim(Formula(2, ((), (1,))), (1,)), ("shut", (1,)))
        self.assertSame(open_claim(Formula(2, ((1,), (1,))), (1,)), ("open", (1,)))
        self.assertSame(open_paper(Formula(0, ()), ()), ())
        self.assertSame(open_paper(Formula(0, ((), ())), ()), END)

    def test_wrong_literals(self):
        for wrong in WRONG_ROWS:
            for call in (open_claim, open_paper):
                self.assertRaisesWith(InvalidLiterals, {"value": wrong}, call, F, wrong)
                if wrong != ():
                    self.assertRaisesWith(InvalidLiterals, {"value": wrong}, call, Formula(0, ((),)), wrong)

    def test_against_all_rows(self):
        rng = random.Random(31)
        for formula in random_formulas(32, 1500, 6, 22):
            found = tried_models(formula)
            self.assertIs(is_open(formula), bool(found))
            literals = random_row(rng, formula.n)
            agreeing = [row for row in found if agrees(literals, row)]
            claim = ("open" if agreeing else "shut", literals)
            other = ("shut" if agreeing else "open", literals)
            self.assertSame(open_claim(formula, literals), claim)
            paper = open_paper(formula, literals)
            self.assertIs(open_holds(formula, claim, paper), True)
            self.assertIs(open_holds(formula, other, paper), False)
            self.assertSame(open_paper(formula, literals), paper)
            if agreeing:
                self.assertIn(paper, agreeing)
            else:
                self.assertTrue(slowly_refutes(formula.under(literals), paper))

    def test_many_variables(self):
        for formula, expected in (
                (counted_formula(10, 5, 5), True), (counted_formula(9, 5, 4), False), (counted_formula(10, 9, 8), False),
                (parity_formula(8, (0, 1)), False), (parity_formula(9, (1,)), True),
                (broken_formula(parity_formula(6, (0, 1)), [(2, 3, 4, 5, 6, 1), (1, 2, 3, 4, -5, -6)]), False),
                (broken_formula(Formula(10, ((1, 2, 3), (-4, -5))), [(3, 2, 1, 4, 5, 6, 7, 8, 9, 10)] * 3), True)):
            self.assertIs(is_open(formula), expected)
            self.assertSame(open_claim(formula, ()), ("open" if expected else "shut", ()))
            self.assertIs(open_holds(formula, open_claim(formula, ()), open_paper(formula, ())), True)

    def test_a_hole_too_few(self):
        def v(i, j):
            return i * 4 + j + 1

        clauses = [tuple(v(i, j) for j in range(4)) for i in range(5)]
        clauses += [(-v(i, j), -v(k, j)) for j in range(4) for i in range(5) for k in range(i + 1, 5)]
        formula = Formula(20, clauses)
        self.assertSame(open_claim(formula, ()), ("shut", ()))
        self.assertIs(open_holds(formula, ("shut", ()), open_paper(formula, ())), True)
        self.assertIs(is_open(formula.without(0)), True)

    def test_the_formula_stays_as_it_is(self):
        before = repr((F.n, F.clauses))
        is_open(F), open_claim(F, (1,)), open_paper(F, (1, 2)), open_holds(F, ("shut", (1, 2)), END)
        self.assertEqual(repr((F.n, F.clauses)), before)


class TestPapersOfOpen(Case):
    def test_a_model_that_agrees(self):
        self.assertIs(open_holds(F, ("open", (2,)), (-1, 2, -3)), True)
        self.assertIs(open_holds(F, ("open", ()), (-1, 2, -3)), True)
        self.assertIs(open_holds(F, ("open", (-1, 2, -3)), (-1, 2, -3)), True)
        self.assertIs(open_holds(formula=F, claim=("open", ()), paper=(1, -2, 3)), True)
        self.assertIs(open_holds(Formula(0, ()), ("open", ()), ()), True)

    def test_what_is_none(self):
        for paper in ((1, -2, 3), (-1, 2, 3), (2,), (), (-1, 2), (-1, 2, -3, 4), [-1, 2, -3], ((-1, 2, -3),), END):
            self.assertIs(open_holds(F, ("open", (2,)), paper), False, paper)
        self.assertIs(open_holds(F, ("open", (1, 2)), (1, 2, -3)), False)
        self.assertIs(open_holds(F, ("open", ()), (True, -2, 3)), False)
        self.assertIs(open_holds(Formula(0, ((),)), ("open", ()), ()), False)
        self.assertIs(open_holds(Formula(1, ()), ("open", (-1,)), (1,)), False)

    def test_a_paper_of_another_formula(self):
        self.assertIs(open_holds(Formula(3, ((1,),)), ("open", ()), (-1, 2, -3)), False)
        self.assertIs(open_holds(Formula(2, ()), ("open", ()), (1, -2, 3)), False)


class TestRefutations(Case):
    def holds(self, formula, paper, literals=()):
        return open_holds(formula, ("shut", literals), paper)

    def test_one_step(self):
        self.assertIs(self.holds(G, END), True)
        self.assertIs(self.holds(F, END, (1, 2)), True)
        self.assertIs(self.holds(Formula(0, ((),)), END), True)
        self.assertIs(self.holds(SQUARE, END), False)
        self.assertIs(self.holds(F, END), False)
        self.assertIs(self.holds(F, END, (1,)), False)

    def test_no_step(self):
        self.assertIs(self.holds(G, ()), False)
        self.assertIs(self.holds(Formula(0, ((),)), ()), False)

    def test_steps_that_follow(self):
        self.assertIs(self.holds(SQUARE, (("add", (1,)),) + END), True)
        self.assertIs(self.holds(SQUARE, (("add", (2,)), ("add", (1,))) + END), True)
        self.assertIs(self.holds(SQUARE, (("add", (1, 2)), ("add", (1,)), ("add", (1,))) + END), True)

    def test_a_step_that_does_not_follow(self):
        cube = Formula(3, [(a, 2 * b, 3 * c) for a in (1, -1) for b in (1, -1) for c in (1, -1)])
        self.assertIs(self.holds(cube, (("add", (1,)), ("add", (2,))) + END), False)
        self.assertIs(self.holds(cube, (("add", (1, 2)), ("add", (1,)), ("add", (2,))) + END), True)
        self.assertIs(self.holds(cube, (("add", (1, 2)), ("add", (1,)), ("add", (-1, 3)))), False)
        self.assertIs(self.holds(F, (("add", (1,)),) + END), False)
        self.assertIs(self.holds(Formula(1, ()), (("add", (1,)), ("add", (-1,))) + END), False)

    def test_clauses_of_variables_to_n(self):
        self.assertIs(self.holds(G, (("add", (1,)),) + END), True)
        for clause in ((2,), (1, 2), (0,), (-2,), (1, 1), (1, -1)):
            self.assertIs(self.holds(G, (("add", clause),) + END), False, clause)

    def test_the_last_step_adds_the_empty_clause(self):
        self.assertIs(self.holds(G, (("add", (1,)),)), False)
        self.assertIs(self.holds(G, END + (("add", (1,)),)), False)
        self.assertIs(self.holds(G, END + (("drop", ()),)), False)
        self.assertIs(self.holds(G, END + (("drop", (1,)),)), False)

    def test_the_empty_clause_may_be_added_ahead(self):
        self.assertIs(self.holds(G, END + END), True)
        self.assertIs(self.holds(G, END + (("add", (1,)),) + END), True)
        self.assertIs(self.holds(G, END + (("drop", (1,)), ("drop", (-1,))) + END), True)
        self.assertIs(self.holds(G, END + (("drop", ()),) + END), True)
        self.assertIs(self.holds(G, END + (("drop", ()), ("drop", (1,))) + END), False)
        self.assertIs(self.holds(G, END + END + (("drop", ()), ("drop", (1,))) + END), True)
        self.assertIs(self.holds(G, END + END + (("drop", ()), ("drop", ()), ("drop", (1,))) + END), False)
        # With the empty clause there anything follows.
        self.assertIs(self.holds(Formula(2, ((),)), (("add", (1, -2)),) + END), True)

    def test_drops(self):
        drop = ("drop", (1, 2))
        self.assertIs(self.holds(SQUARE, (("add", (1,)), drop, ("drop", (1, -2))) + END), True)
        self.assertIs(self.holds(SQUARE, (drop, ("add", (1,))) + END), False)
        self.assertIs(self.holds(SQUARE, (("add", (1,)), ("drop", (-1, 2))) + END), False)
        self.assertIs(self.holds(SQUARE, (("add", (1,)), drop, drop) + END), False)
        self.assertIs(self.holds(SQUARE, (("add", (1,)), ("drop", (2,))) + END), False)
        self.assertIs(self.holds(SQUARE, (("add", (1,)), ("drop", (1,))) + END), False)
        self.assertIs(self.holds(G, (("drop", (1,)),) + END), False)
        self.assertIs(self.holds(G, (("drop", ()),) + END), False)

    def test_a_drop_of_a_clause_that_stands_twice(self):
        twice = G.with_clause((1,))
        drop = (("drop", (1,)),)
        self.assertIs(self.holds(twice, drop + END), True)
        self.assertIs(self.holds(twice, drop + drop + END), False)
        self.assertIs(self.holds(twice, drop + (("add", (1,)),) + drop + END), True)
        self.assertIs(self.holds(twice, drop + (("add", (1,)),) + drop + drop + END), False)
        self.assertIs(self.holds(G, (("add", (1,)),) + drop + END), True)
        self.assertIs(self.holds(G, drop + END, (1,)), True)
        self.assertIs(self.holds(G, drop + drop + END, (1,)), False)
        self.assertIs(self.holds(G, drop + (("add", (1,)),) + END), False)

    def test_dropped_and_added_again(self):
        formula = Formula(2, ((1,), (-1,), (1, 2)))
        drop, add = ("drop", (1, 2)), ("add", (1, 2))
        self.assertIs(self.holds(formula, (drop, add, drop, add) + END), True)
        self.assertIs(self.holds(formula, (drop, add, drop, drop) + END), False)

    def test_literals_of_the_claim_stand_as_clauses(self):
        self.assertIs(self.holds(F, (("drop", (1,)),) + END, (1, 2)), False)
        self.assertIs(self.holds(F, (("add", (3,)), ("drop", (1,))) + END, (1, 2)), True)
        self.assertIs(self.holds(F, (("drop", (3,)),) + END, (1, 2)), False)

    def test_a_paper_for_other_literals_or_another_formula(self):
        paper = open_paper(F, (1, 2))
        self.assertIs(self.holds(F, paper, (1, 2)), True)
        self.assertIs(self.holds(F, paper, (1,)), False)
        self.assertIs(self.holds(Formula(3, ((1, 2),)), paper, (1, 2)), False)
        paper = open_paper(SQUARE, ())
        for place in range(4):
            self.assertIs(self.holds(SQUARE.without(place), paper), False)

    def test_steps_in_no_form(self):
        for step in ((), ("add",), ("add", (), ()), ("put", ()), ("Add", ()), ("", ()), (None, ()), ("add", None), "add",
                     ("add", 1), ("add", "1"), ("add", []), ["add", ()], ("add", (True,)), None, 1, True, ((), "add"),
                     ("drop",), ("drop", ((1,),)), (("add", ()),), ("add", ((),)), F, ("add", F)):
            self.assertIs(self.holds(G, (step,)), False, step)
            self.assertIs(self.holds(G, (step,) + END), False, step)
            self.assertIs(self.holds(G, END + (step,) + END), False, step)
            self.assertIs(self.holds(G, END + (step,)), False, step)
        for paper in (list(END), [], None, True, 1, "add", ("add", ()), {0: 1}, F, (END,)):
            self.assertIs(self.holds(G, paper), False)

    def test_a_drop_of_a_clause_with_true_for_one(self):
        formula = Formula(2, ((1,), (-1,), (1,)))
        self.assertIs(self.holds(formula, (("drop", (1,)),) + END), True)
        self.assertIs(self.holds(formula, (("drop", (True,)),) + END), False)

    def test_random_steps_against_the_words_of_the_document(self):
        rng = random.Random(33)
        held = 0
        for formula in random_formulas(34, 1200, 3, 10):
            row = list(formula.clauses)
            steps = []
            for _ in range(rng.randint(0, 5)):
                if row and rng.random() < 0.4:
                    steps.append(("drop", rng.choice(row)))
                    if rng.random() < 0.8:
                        row.remove(steps[-1][1])
                else:
                    steps.append(("add", random_clause(rng, formula.n, 3)))
                    row.append(steps[-1][1])
            if rng.random() < 0.9:
                steps.append(("add", ()))
            expected = slowly_refutes(formula, tuple(steps))
            self.assertIs(self.holds(formula, tuple(steps)), expected, (formula.clauses, steps))
            held += expected
        self.assertGreater(held, 100)

    def test_only_shut_formulas_have_one(self):
        for formula in random_formulas(35, 300, 4, 8):
            for paper in (END, END + END, (("add", (1,)),) + END, (("add", (-1,)), ("add", (1,))) + END):
                if self.holds(formula, paper):
                    self.assertEqual(tried_models(formula), ())

    def test_long_papers(self):
        formula = parity_formula(10, (0, 1))
        paper = open_paper(formula, ())
        self.assertIs(self.holds(formula, paper), True)
        many = tuple(("add", clause) for clause in formula.clauses) * 4
        self.assertIs(self.holds(formula, many + paper), True)
        drops = tuple(("drop", clause) for clause in formula.clauses) * 4
        self.assertIs(self.holds(formula, many + drops + paper), True)
        self.assertIs(self.holds(formula, many + drops + drops[:512] + paper), False)


class TestLooking(Case):
    def test_odd_claims_and_papers(self):
        right = ((F, ("open", ()), (1, -2, 3)), (G, ("shut", ()), END), (Formula(0, ()), ("open", ()), ()),
                 (SQUARE, ("shut", (1,)), END))
        for formula, claim, paper in right:
            self.assertIs(open_holds(formula, claim, paper), True)
            for odd in ODD_VALUES + (nested(30), nested(30, list), nested(29) + (1,)):
                self.assertIs(open_holds(formula, odd, odd), False, odd)
                if repr(odd) not in (repr(("open", ())), repr(("shut", ()))):
                    self.assertIs(open_holds(formula, odd, paper), False, odd)
                held = open_holds(formula, claim, odd)
                self.assertIs(held, claim[0] == "open" and formula.n == 0 and repr(odd) == "()", odd)

    def test_claims_in_no_form(self):
        for literals in WRONG_ROWS:
            self.assertIs(open_holds(F, ("open", literals), (1, -2, 3)), False)
            self.assertIs(open_holds(F, ("shut", literals), END), False)
        for claim in (("open",), ("open", (), ()), ("Open", ()), ("", ()), ("reasons", ()), ("fixed", ()), (1, ()),
                      (None, ()), ((), "open"), ["open", ()], "open", (("open", ()),), ("open", ((),))):
            self.assertIs(open_holds(F, claim, (1, -2, 3)), False)
            self.assertIs(open_holds(G, claim, END), False)

    def test_words_lists_and_bools_anywhere(self):
        paper = (("add", (1, 2)), ("drop", (1, 2)), ("add", (1,))) + END
        right = ((F, ("open", (1, 3)), (1, -2, 3)), (SQUARE, ("shut", ()), paper), (F, ("shut", (1, 2)), END))
        for formula, claim, paper in right:
            self.assertIs(open_holds(formula, claim, paper), True)
            for other in list(listed_anywhere(paper)) + list(true_for_one(paper)):
                self.assertIs(open_holds(formula, claim, other), False, other)
            for other in list(listed_anywhere(claim)) + list(true_for_one(claim)):
                self.assertIs(open_holds(formula, other, paper), False, other)
            for put in (None, True, [], "", "a word", F, [1], 0, 99, -99, 10 ** 14, (("x",),)):
                for other in changed_anywhere(paper, put):
                    self.assertIs(open_holds(formula, claim, other), False, other)
                for other in changed_anywhere(claim, put):
                    self.assertIs(open_holds(formula, other, paper), False, other)


if __name__ == "__main__":
    unittest.main()
