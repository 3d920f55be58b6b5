"""Point [28]: what stands between two formulas that do not go together."""

import random
import unittest

from clausehold.betweens import between, between_holds, between_paper
from clausehold.errors import Undefined
from clausehold.formulas import Formula, joined
from tests.helpers import (
    NO_PARTS, ODD_VALUES, Case, changed_anywhere, listed_anywhere, nested, random_clause, slowly_refutes, true_for_one,
    tried_models,
)

END = (("add", ()),)
# Models of ONE have 2 or 3 true, those of OTHER have both false; 1 stands in ONE alone, 4 in OTHER alone.
ONE = Formula(4, ((1, 2), (-1, 3)))
OTHER = Formula(4, ((-2, 4), (-3, 4), (-2, -4), (-3, -4)))
CLAIM = ("between", ((2, 3),))
PAPER = ((END,), (("add", (-2,)), ("add", ())))


def variables(formula):
    return {abs(x) for clause in formula.clauses for x in clause}


def slowly_between(one, other, clauses):
    """Whether the formula of the clauses is between both, told as the document tells it."""
    formula = Formula(one.n, clauses)
    if not variables(formula) <= variables(one) & variables(other):
        return False
    if not set(tried_models(one)) <= set(tried_models(formula)):
        return False
    return not tried_models(joined(formula, other))


def slowly_shows(one, other, clauses, paper):
    """Whether a pair of refutations in form is a paper, told as the document tells it."""
    refutations, last = paper
    if not {abs(x) for clause in clauses for x in clause} <= variables(one) & variables(other):
        return False
    if len(refutations) != len(clauses):
        return False
    for clause, steps in zip(clauses, refutations):
        if not slowly_refutes(one.under(tuple(-x for x in clause)), steps):
            return False
    return slowly_refutes(Formula(one.n, tuple(clauses) + other.clauses), last)


def random_pairs(seed, many):
    """Pairs of formulas of like n, with variables of their own and some in common."""
    rng = random.Random(seed)
    for _ in range(many):
        n = rng.randint(0, 6)
        pair = []
        for _ in range(2):
            own = sorted(rng.sample(range(1, n + 1), rng.randint(min(n, 1), n)))
            clauses = []
            least = rng.choice((0, 1, 2))
            for _ in range(rng.randint(0, 12)):
                clause = random_clause(rng, len(own), 3)
                if len(clause) < least:
                    continue
                clauses.append(tuple(own[abs(x) - 1] * (1 if x > 0 else -1) for x in clause))
            pair.append(Formula(n, clauses))
        yield pair


class TestBetween(Case):
    def assertBetween(self, one, other):
        formula = between(one, other)
        self.assertIs(formula.__class__, Formula)
        self.assertEqual(formula.n, one.n)
        self.assertTrue(slowly_between(one, other, formula.clauses), (one.clauses, other.clauses, formula.clauses))
        self.assertSame(between(one, other).clauses, formula.clauses)
        claim, paper = between_paper(one, other)
        self.assertSame(between_paper(one, other), (claim, paper))
        self.assertIs(between_paper(one, other).__class__, tuple)
        self.assertEqual(claim[0], "between")
        self.assertTrue(slowly_between(one, other, claim[1]))
        self.assertTrue(slowly_shows(one, other, claim[1], paper))
        self.assertIs(between_holds(one, other, claim, paper), True)

    def test_some_formula(self):
        self.assertBetween(ONE, OTHER)
        self.assertBetween(OTHER, ONE)
        self.assertBetween(Formula(2, ((1,),)), Formula(2, ((-1,),)))
        self.assertTrue(slowly_between(ONE, OTHER, between(one=ONE, other=OTHER).clauses))
        claim, paper = between_paper(one=ONE, other=OTHER)
        self.assertIs(between_holds(one=ONE, other=OTHER, claim=claim, paper=paper), True)

    def test_one_formula_is_shut_alone(self):
        shut = Formula(3, ((1,), (-1,)))
        for other in (Formula(3, ()), Formula(3, ((2, 3),)), Formula(3, ((1, 2),)), shut, Formula(3, ((),))):
            self.assertBetween(shut, other)
            self.assertBetween(other, shut)

    def test_the_empty_clause_in_one_of_both(self):
        for n in (0, 1, 3):
            empty = Formula(n, ((),))
            for other in (Formula(n, ()), Formula(n, ((),)), Formula(n, ((n,),) if n else ())):
                self.assertBetween(empty, other)
                self.assertBetween(other, empty)
                self.assertSame([slowly_between(empty, other, ((),)), between(Formula(n, ()), empty).clauses], [True, ()])

    def test_no_common_variables(self):
        one = Formula(4, ((1,), (-1, 2), (-2,)))
        other = Formula(4, ((3, 4), (-3,)))
        self.assertBetween(one, other)
        self.assertBetween(other, one)
        self.assertSame(between(other, one).clauses, ())
        self.assertSame(between(one, other).clauses, ((),))

    def test_errors(self):
        for one, other in ((Formula(2, ()), Formula(1, ())), (Formula(0, ((),)), Formula(1, ((),))), (ONE, Formula(3, ()))):
            self.assertRaisesWith(Undefined, {"what": "size"}, between, one, other)
            self.assertRaisesWith(Undefined, {"what": "size"}, between_paper, one, other)
        for one, other in ((Formula(0, ()), Formula(0, ())), (ONE, ONE), (OTHER, OTHER), (Formula(2, ((1,),)),) * 2,
                           (ONE, Formula(4, ())), (Formula(4, ()), OTHER)):
            self.assertRaisesWith(Undefined, {"what": "model"}, between, one, other)
            self.assertRaisesWith(Undefined, {"what": "model"}, between_paper, one=one, other=other)

    def test_random_formulas_against_all_rows(self):
        many = wide = 0
        for one, other in random_pairs(201, 2500):
            if tried_models(joined(one, other)):
                self.assertRaisesWith(Undefined, {"what": "model"}, between, one, other)
                self.assertRaisesWith(Undefined, {"what": "model"}, between_paper, one, other)
                continue
            self.assertBetween(one, other)
            many += 1
            wide += bool(tried_models(one)) and bool(tried_models(other))
        self.assertGreater(many, 300)
        self.assertGreater(wide, 80)

    def test_as_many_common_variables_as_there_may_be(self):
        # Their sum is even in one, odd in the other: it takes a clause for each row that is odd.
        rows = [tuple(v * (-1 if bits >> v & 1 else 1) for v in range(1, 6)) for bits in range(0, 64, 2)]
        even = [row for row in rows if sum(x < 0 for x in row) % 2]
        odd = [row for row in rows if not sum(x < 0 for x in row) % 2]
        one = Formula(10, even + [(1, 6), (-6, 7)])
        other = Formula(10, odd + [(2, 8), (-8, 9)])
        self.assertBetween(one, other)
        self.assertBetween(other, one)
        self.assertEqual(len(between(one, other)), 16)

    def test_the_formulas_stay_as_they_are(self):
        before = repr((ONE.n, ONE.clauses, OTHER.n, OTHER.clauses))
        between(ONE, OTHER), between_paper(ONE, OTHER), between_holds(ONE, OTHER, CLAIM, PAPER)
        self.assertEqual(repr((ONE.n, ONE.clauses, OTHER.n, OTHER.clauses)), before)


class TestBetweenHolds(Case):
    def holds(self, claim, paper, one=ONE, other=OTHER):
        return between_holds(one, other, claim, paper)

    def test_a_paper(self):
        self.assertIs(self.holds(CLAIM, PAPER), True)
        self.assertIs(self.holds(("between", ((2, 3), (2, 3))), ((END, END), PAPER[1])), True)
        self.assertIs(self.holds(("between", ((2, 3),)), ((END,), (("drop", (2, 3)), ("add", (2, 3))) + PAPER[1])), False)
        self.assertIs(self.holds(("between", ((2, 3), (2, 3))), ((END, END), (("drop", (2, 3)),) + PAPER[1])), True)

    def test_a_clause_that_does_not_follow(self):
        for clause in ((2,), (3,), (-2, -3), (), (-2, 3), (2, -3)):
            self.assertIs(self.holds(("between", (clause,)), ((END,), PAPER[1])), False)
            self.assertIs(self.holds(("between", ((2, 3), clause)), ((END, END), PAPER[1])), False)

    def test_a_variable_of_one_formula_alone(self):
        one = Formula(4, ((1,), (2,)))
        other = Formula(4, ((-2,), (3,)))
        self.assertIs(self.holds(("between", ((2,),)), ((END,), END), one, other), True)
        self.assertIs(self.holds(("between", ((1,), (2,))), ((END, END), END), one, other), False)
        self.assertIs(self.holds(("between", ((1, 2), (2,))), ((END, END), END), one, other), False)
        self.assertIs(self.holds(("between", ((2, 3), (2,))), ((END, END), END), one, other), False)
        self.assertIs(self.holds(("between", ((2, 4), (2,))), ((END, END), END), one, other), False)
        self.assertIs(self.holds(("between", ((2, 5), (2,))), ((END, END), END), one, other), False)

    def test_too_weak_for_the_other(self):
        self.assertIs(self.holds(("between", ()), ((), END)), False)
        self.assertIs(self.holds(("between", ()), ((), PAPER[1])), False)
        self.assertIs(self.holds(("between", ()), ((), END), ONE, Formula(4, ((),))), True)

    def test_refutations_cut_lacking_too_many_or_of_another_formula(self):
        two = ("between", ((2, 3), (2, 3)))
        self.assertIs(self.holds(two, ((END, END), PAPER[1])), True)
        for refutations in ((), (END,), (END, END, END), ((), END), (END, ()), END, (END, PAPER[1] + END[:0] + ((),))):
            self.assertIs(self.holds(two, (refutations, PAPER[1])), False)
        for last in ((), PAPER[1][:1], END, PAPER[1][1:], (("add", (-2,)), ("add", ()), ("drop", (-2,))),
                     (("add", (1,)), ("add", ())), (("add", (-5,)), ("add", ()))):
            self.assertIs(self.holds(CLAIM, ((END,), last)), False)
        # A refutation of one under the contraries may take a drop of one of these.
        drop = (("drop", (-2,)),)
        clauses = ("between", ((2, 3),))
        self.assertIs(self.holds(clauses, (((("add", (1,)), ("add", ())),), PAPER[1])), True)
        self.assertIs(self.holds(clauses, ((drop + END,), PAPER[1])), False)
        self.assertIs(self.holds(clauses, (((("add", (-1,)),) + (("add", ()),) + drop + END,), PAPER[1])), True)

    def test_the_clauses_stand_with_those_of_the_other(self):
        one = Formula(2, ((1,), (2,)))
        other = Formula(2, ((-1,), (2,)))
        claim = ("between", ((1,),))
        self.assertIs(self.holds(claim, ((END,), END), one, other), True)
        self.assertIs(self.holds(claim, ((END,), (("drop", (1,)),) + END), one, other), False)
        self.assertIs(self.holds(claim, ((END,), (("add", ()), ("drop", (1,)), ("drop", (-1,)), ("drop", (2,))) + END),
                                 one, other), True)
        self.assertIs(self.holds(claim, ((END,), (("add", ()), ("drop", (1,)), ("drop", (1,))) + END), one, other), False)

    def test_formulas_of_unlike_n_or_open_together(self):
        claim, paper = ("between", ((),)), ((END,), END)
        empty = Formula(2, ((),))
        self.assertIs(self.holds(claim, paper, empty, empty), True)
        self.assertIs(self.holds(claim, paper, empty, Formula(3, ((),))), False)
        self.assertIs(self.holds(claim, paper, Formula(3, ((),)), empty), False)
        self.assertIs(self.holds(("between", ()), ((), END), Formula(3, ()), empty), False)
        for one, other in ((ONE, ONE), (ONE, Formula(4, ())), (Formula(4, ()), Formula(4, ()))):
            for clauses in ((), ((),), ((2, 3),)):
                self.assertIs(self.holds(("between", clauses), ((END,) * len(clauses), END), one, other), False)

    def test_papers_of_other_formulas(self):
        self.assertIs(self.holds(CLAIM, PAPER, OTHER, ONE), False)
        self.assertIs(self.holds(CLAIM, PAPER, ONE.without(0), OTHER), False)
        self.assertIs(self.holds(CLAIM, PAPER, ONE, OTHER.without(0)), False)
        self.assertIs(self.holds(CLAIM, PAPER, ONE.with_clause((4,)), OTHER), True)
        self.assertIs(self.holds(CLAIM, PAPER, Formula(5, ONE.clauses), Formula(5, OTHER.clauses)), True)

    def test_odd_claims_and_papers(self):
        for other in list(listed_anywhere(PAPER)) + list(true_for_one(PAPER)):
            self.assertIs(self.holds(CLAIM, other), False)
        for other in list(listed_anywhere(CLAIM)) + list(true_for_one(CLAIM)):
            self.assertIs(self.holds(other, PAPER), False)
        for put in NO_PARTS:
            for other in changed_anywhere(PAPER, put):
                self.assertIs(self.holds(CLAIM, other), False, other)
            for other in changed_anywhere(CLAIM, put):
                self.assertIs(self.holds(other, PAPER), False, other)
        for odd in ODD_VALUES + (nested(30), nested(30, list)):
            self.assertIs(self.holds(odd, odd), False)
            self.assertIs(self.holds(odd, PAPER), False)
            self.assertIs(self.holds(CLAIM, odd), False)
            self.assertIs(self.holds(("between", odd), PAPER), False)
            self.assertIs(self.holds(CLAIM, (odd, PAPER[1])), False)
            self.assertIs(self.holds(CLAIM, ((odd,), PAPER[1])), False)
            if odd != END:
                self.assertIs(self.holds(CLAIM, ((END,), odd)), False)
        for claim in (("Between", CLAIM[1]), ("between",), CLAIM + ((),), (CLAIM[1], "between"), ("between", (2, 3)),
                      ("between", ((3, 2),)), ("between", ((2, 2),)), ("between", ((2, -2),)), ("between", 0), CLAIM[1]):
            self.assertIs(self.holds(claim, PAPER), False)
        for paper in (PAPER[:1], PAPER + ((),), PAPER[::-1], (PAPER,), (PAPER[0] + PAPER[1],), PAPER[0], PAPER[1]):
            self.assertIs(self.holds(CLAIM, paper), False)

    def test_random_claims_against_all_rows(self):
        rng = random.Random(202)
        held = 0
        for one, other in random_pairs(203, 1500):
            clauses = tuple(random_clause(rng, one.n, 2) for _ in range(rng.randint(0, 2)))
            paper = ((END,) * len(clauses), END)
            holds = between_holds(one, other, ("between", clauses), paper)
            self.assertIs(holds, slowly_shows(one, other, clauses, paper))
            if holds:
                self.assertTrue(slowly_between(one, other, clauses))
                held += len(clauses) > 0
        self.assertGreater(held, 15)


if __name__ == "__main__":
    unittest.main()
