"""Point [12]: reasons."""

import random
import unittest
from itertools import combinations

from clausehold.errors import InvalidLiterals, Undefined
from clausehold.formulas import Formula
from clausehold.reasons import reasons, reasons_holds, reasons_paper
from clausehold.solving import open_holds
from tests.helpers import (
    ODD_VALUES, Case, broken_formula, changed_anywhere, counted_formula, listed_anywhere, nested, random_formulas,
    random_row, tried_models, true_for_one,
)

F = Formula(3, ((1, 2), (-1, 3), (-2, -3)))
G = Formula(1, ((1,), (-1,)))
END = (("add", ()),)
CLAIM = ("reasons", (1, 2, -3), (1, 2))
M = (1, -2, 3)
K = (-1, 2, -3)
PAPER = (END, (M, K, K))


def tried_reasons(formula, literals):
    """The reasons by trying all rows, or None, and the rows ahead that a paper shows open."""
    found = [set(row) for row in tried_models(formula)]
    for size in range(len(literals) + 1):
        for at, row in enumerate(combinations(literals, size)):
            if not any(set(row) <= model for model in found):
                ahead = list(combinations(literals, size))[:at]
                return row, (list(combinations(literals, size - 1)) if size else []) + ahead
    return None, []


class TestReasons(Case):
    def test_the_fewest_and_of_these_the_first(self):
        self.assertSame(reasons(F, (1, 2, -3)), (1, 2))
        self.assertSame(reasons(F, (1, -3)), (1, -3))
        self.assertSame(reasons(formula=F, literals=(-1, -2)), (-1, -2))
        formula = Formula(4, ((-1, -2, -3), (-4,)))
        self.assertSame(reasons(formula, (1, 2, 3, 4)), (4,))
        self.assertSame(reasons(formula, (1, 2, 3)), (1, 2, 3))

    def test_none_of_the_literals(self):
        for formula in (G, Formula(1, ((),)), Formula(2, ((1,), (-1,), ()))):
            self.assertSame(reasons(formula, ()), ())
            self.assertSame(reasons(formula, (1,)), ())
            self.assertSame(reasons_paper(formula, (1,))[1], ())
        self.assertSame(reasons(Formula(0, ((),)), ()), ())

    def test_open_formulas_have_none(self):
        for formula, literals in ((F, (1,)), (F, ()), (Formula(0, ()), ()), (Formula(3, ()), (1, -2, 3)),
                                  (Formula(2, ((1, 2),)), (-1, 2))):
            for call in (reasons, reasons_paper):
                self.assertRaisesWith(Undefined, {"what": "reasons"}, call, formula, literals)

    def test_wrong_literals(self):
        for wrong in ((2, 1), (1, -1), (1, 1), (0,), (4,), (-4,), [1], [], None, True, 1, "", "1", (True,), (1, None),
                      ((1,),), ([1],)):
            for formula in (F, Formula(3, ()), Formula(3, ((),))):
                for call in (reasons, reasons_paper):
                    self.assertRaisesWith(InvalidLiterals, {"value": wrong}, call, formula, wrong)

    def test_against_all_rows(self):
        rng = random.Random(41)
        shut = 0
        for formula in random_formulas(42, 1500, 6, 18):
            literals = random_row(rng, formula.n)
            few, ahead = tried_reasons(formula, literals)
            if few is None:
                for call in (reasons, reasons_paper):
                    self.assertRaisesWith(Undefined, {"what": "reasons"}, call, formula, literals)
                continue
            shut += 1
            self.assertSame(reasons(formula, literals), few)
            paper = reasons_paper(formula, literals)
            self.assertSame(reasons_paper(formula, literals), paper)
            self.assertIs(reasons_holds(formula, ("reasons", literals, few), paper), True)
            refutation, opens = paper
            self.assertIs(open_holds(formula, ("shut", few), refutation), True)
            self.assertEqual(len(opens), len(ahead))
            for row, model in zip(ahead, opens):
                self.assertIs(open_holds(formula, ("open", row), model), True)
            self.others_do_not_hold(rng, formula, literals, few, paper)
        self.assertGreater(shut, 300)

    def others_do_not_hold(self, rng, formula, literals, few, paper):
        refutation, opens = paper
        claim = ("reasons", literals, few)
        self.assertIs(reasons_holds(formula, claim, (refutation, opens + ((1,) * formula.n,))), False)
        if opens:
            self.assertIs(reasons_holds(formula, claim, (refutation, opens[:-1])), False)
            self.assertIs(reasons_holds(formula, claim, (refutation, opens + opens[:1])), False)
        if few:
            self.assertIs(reasons_holds(formula, claim, (refutation, ())), False)
        for _ in range(6):
            other = tuple(x for x in literals if rng.random() < 0.5)
            if other != few:
                self.assertIs(reasons_holds(formula, ("reasons", literals, other), paper), False)

    def test_ten_literals(self):
        formula = Formula(10, (tuple(range(1, 11)),))
        literals = tuple(range(-1, -11, -1))
        self.assertSame(reasons(formula, literals), literals)
        paper = reasons_paper(formula, literals)
        self.assertEqual(len(paper[1]), 10)
        self.assertIs(reasons_holds(formula, ("reasons", literals, literals), paper), True)

    def test_many_variables(self):
        counted = counted_formula(8, 3, 4)
        turned = broken_formula(Formula(6, ((1, 2), (-3, -4, 5))), [(2, 1, 3, 4, 5, 6), (-1, -2, -3, -4, -5, -6)])
        for formula, literals in ((counted, tuple(range(1, 9))), (counted, tuple(range(-1, -9, -1))),
                                  (turned, (-1, 6)), (turned, tuple(range(-1, -turned.n - 1, -1)))):
            few = reasons(formula, literals)
            self.assertIs(reasons_holds(formula, ("reasons", literals, few), reasons_paper(formula, literals)), True)
        self.assertSame(reasons(counted, tuple(range(1, 9))), (1, 2, 3, 4, 5))

    def test_the_formula_stays_as_it_is(self):
        before = repr((F.n, F.clauses))
        reasons(F, (1, 2)), reasons_paper(F, (1, 2)), reasons_holds(F, CLAIM, PAPER)
        self.assertEqual(repr((F.n, F.clauses)), before)


class TestPapers(Case):
    def test_a_paper(self):
        self.assertIs(reasons_holds(F, CLAIM, PAPER), True)
        self.assertIs(reasons_holds(formula=F, claim=CLAIM, paper=PAPER), True)

    def test_rows_of_as_many_ahead_are_shown_open(self):
        # With (1, 2, -3) in the order of places: (1, 2), (1, -3), (2, -3).
        formula = Formula(3, ((-2, 3),))
        claim = ("reasons", (1, 2, -3), (2, -3))
        opens = ((1, 2, 3), (1, 2, 3), (1, -2, -3), (1, 2, 3), (1, -2, -3))
        self.assertIs(reasons_holds(formula, claim, (END, opens)), True)
        self.assertIs(reasons_holds(formula, claim, (END, opens[:4])), False)
        self.assertIs(reasons_holds(formula, claim, (END, opens[:3])), False)
        self.assertIs(reasons_holds(formula, claim, (END, opens + opens[:1])), False)
        self.assertIs(reasons_holds(formula, claim, (END, opens[:3] + opens[:2:-1])), False)

    def test_one_literal(self):
        formula = Formula(3, ((-2,),))
        claim = ("reasons", (1, 2, 3), (2,))
        self.assertSame(reasons(formula, (1, 2, 3)), (2,))
        # A model for the row of none, and one for (1,), which is ahead of (2,).
        self.assertIs(reasons_holds(formula, claim, (END, ((-1, -2, 3), (1, -2, 3)))), True)
        self.assertIs(reasons_holds(formula, claim, (END, ((1, -2, 3), (-1, -2, 3)))), False)
        self.assertIs(reasons_holds(formula, claim, (END, ((1, -2, 3),))), False)
        self.assertIs(reasons_holds(formula, claim, (END, ())), False)

    def test_few_is_none(self):
        self.assertIs(reasons_holds(G, ("reasons", (1,), ()), (END, ())), True)
        self.assertIs(reasons_holds(G, ("reasons", (), ()), (END, ())), True)
        self.assertIs(reasons_holds(Formula(0, ((),)), ("reasons", (), ()), (END, ())), True)
        self.assertIs(reasons_holds(G, ("reasons", (1,), ()), (END, ((1,),))), False)
        self.assertIs(reasons_holds(G, ("reasons", (1,), ()), (END, ((),))), False)
        self.assertIs(reasons_holds(G, ("reasons", (1,), ()), ((), ())), False)
        self.assertIs(reasons_holds(F, ("reasons", (1,), ()), (END, ())), False)
        self.assertIs(reasons_holds(G, ("reasons", (1,), (1,)), (END, ())), False)
        self.assertIs(reasons_holds(G, ("reasons", (1,), (1,)), (END, ((1,),))), False)

    def test_opens_too_long_too_short_or_wrong(self):
        for opens in ((M, K), (M, K, K, K), (), (K, K, K), (M, M, K), (M, K, M), ((1, 2, 3), K, K), (M, K, (-1, 2)),
                      (M, K, ()), (M, K, 1), (M, K, "k"), [M, K, K], None, M, (M, K, list(K)), (M, K, (K,))):
            self.assertIs(reasons_holds(F, CLAIM, (END, opens)), False, opens)

    def test_refutations_of_another_formula(self):
        chain = Formula(3, ((1, 2, 3), (1, 2, -3), (1, -2, 3), (1, -2, -3)))
        self.assertSame(reasons(chain, (-1,)), (-1,))
        claim = ("reasons", (-1,), (-1,))
        self.assertIs(reasons_holds(chain, claim, ((("add", (2,)),) + END, ((1, 2, 3),))), True)
        for refutation in ((), END, (("add", (2,)),), (("add", (1,)),) + END, (("drop", (1,)),) + END, [END], None):
            self.assertIs(reasons_holds(chain, claim, (refutation, ((1, 2, 3),))), False, refutation)

    def test_the_refutation_has_few_alone(self):
        chain = Formula(3, ((1, 2, 3), (1, 2, -3), (1, -2, 3), (1, -2, -3)))
        claim = ("reasons", (-1, 2), (-1,))
        opens = ((1, 2, 3),)
        self.assertIs(open_holds(chain, ("shut", (-1, 2)), END), True)
        self.assertIs(reasons_holds(chain, claim, (END, opens)), False)
        self.assertIs(reasons_holds(chain, claim, ((("add", (2,)), ("drop", (2,)), ("add", (2,))) + END, opens)), True)
        self.assertIs(reasons_holds(chain, claim, ((("drop", (2,)), ("add", (2,))) + END, opens)), False)

    def test_claims_in_no_form(self):
        for claim in (("reasons", (1, 2, -3)), ("reasons", (1, 2, -3), (1, 2), ()), ("reasons", (2, 1, -3), (1, 2)),
                      ("reasons", [1, 2, -3], (1, 2)), ("reasons", (1, 2, -3), [1, 2]), ["reasons", (1, 2, -3), (1, 2)],
                      ("reasons", (1, 2, -3), (2, 1)), ("reasons", (1, 2, -3), (1, -2)), ("reasons", (1, 2, -3), (1, 3)),
                      ("reasons", (1, -3), (1, 2)), ("reasons", (1, 2, -3, 4), (1, 2)), ("reasons", (1, 2, -3), (0, 1)),
                      ("reasons", (True, 2, -3), (1, 2)), ("reasons", (1, 2, -3), (True, 2)), ("reason", (1, 2, -3), (1, 2)),
                      ("reasons", None, (1, 2)), ("reasons", (1, 2, -3), None), ("open", (1, 2, -3)), ("shut", (1, 2)),
                      ("open", (1, 2, -3), (1, 2)), ("reasons", (1, 2, -3), 2), ("reasons", (1, 2, -3), "12"), (),
                      ("reasons",), "reasons", None, ("reasons", (1, 2, -3), ((1, 2),)), ((1, 2, -3), (1, 2), "reasons")):
            self.assertIs(reasons_holds(F, claim, PAPER), False, claim)

    def test_papers_in_no_form(self):
        for paper in ((END,), (END, (M, K, K), ()), ((M, K, K), END), [END, (M, K, K)], (list(END), (M, K, K)), (), None,
                      True, END, (END, (M, K, K), END), "paper", ((END, (M, K, K)),), F, (END, F), {0: END}):
            self.assertIs(reasons_holds(F, CLAIM, paper), False, paper)

    def test_a_paper_for_other_literals_or_another_formula(self):
        self.assertIs(reasons_holds(F, ("reasons", (1, 2), (1, 2)), PAPER), False)
        self.assertIs(reasons_holds(F, ("reasons", (1, 2), (1, 2)), (END, (M, K))), True)
        self.assertIs(reasons_holds(F, ("reasons", (1, 2, 3), (1, 2)), PAPER), False)
        self.assertIs(reasons_holds(F, ("reasons", (1, 2, -3), (1, -3)), PAPER), False)
        self.assertIs(reasons_holds(F.without(1), CLAIM, PAPER), False)
        self.assertIs(reasons_holds(Formula(4, F.clauses), CLAIM, PAPER), False)
        self.assertIs(reasons_holds(F.with_clause((-1,)), CLAIM, PAPER), False)

    def test_odd_claims_and_papers(self):
        for odd in ODD_VALUES + (nested(30), nested(30, list)):
            self.assertIs(reasons_holds(F, odd, PAPER), False, odd)
            self.assertIs(reasons_holds(F, CLAIM, odd), False, odd)
            self.assertIs(reasons_holds(F, odd, odd), False, odd)
            self.assertIs(reasons_holds(F, CLAIM, (odd, (M, K, K))), False, odd)
            self.assertIs(reasons_holds(F, CLAIM, (END, odd)), False, odd)
            self.assertIs(reasons_holds(F, ("reasons", odd, (1, 2)), PAPER), False, odd)
            self.assertIs(reasons_holds(F, ("reasons", (1, 2, -3), odd), PAPER), False, odd)

    def test_words_lists_and_bools_anywhere(self):
        for other in list(listed_anywhere(PAPER)) + list(true_for_one(PAPER)):
            self.assertIs(reasons_holds(F, CLAIM, other), False, other)
        for other in list(listed_anywhere(CLAIM)) + list(true_for_one(CLAIM)):
            self.assertIs(reasons_holds(F, other, PAPER), False, other)
        for put in (None, False, True, [], "", "word", F, 0, 99, -99, 10 ** 14, (("x",),)):
            for other in changed_anywhere(PAPER, put):
                self.assertIs(reasons_holds(F, CLAIM, other), False, other)
            for other in changed_anywhere(CLAIM, put):
                self.assertIs(reasons_holds(F, other, PAPER), False, other)

    def test_a_claim_with_more_rows_than_could_be_gone_through(self):
        literals = tuple(range(1, 61))
        formula = Formula(60, ())
        self.assertIs(reasons_holds(formula, ("reasons", literals, literals[:30]), (END, (literals,) * 50)), False)
        self.assertIs(reasons_holds(formula, ("reasons", literals, literals[30:]), (END, ())), False)


if __name__ == "__main__":
    unittest.main()
