"""Points [14] and [15]: what is fixed, and what is alike."""

import random
import unittest

from clausehold.errors import InvalidLiterals, Undefined
from clausehold.fixed import (
    alike_claim, alike_groups, alike_holds, alike_paper, fixed, fixed_claim, fixed_holds, fixed_paper,
)
from clausehold.formulas import Formula
from tests.helpers import (
    NO_PARTS, ODD_VALUES, Case, changed_anywhere, nested, random_formulas, slowly_refutes, tried_models,
)

F = Formula(3, ((1, 2), (-1, 3), (-2, -3)))
G = Formula(1, ((1,), (-1,)))
H = Formula(2, ((1,), (-1, 2)))
SQUARE = Formula(2, ((1, 2), (1, -2), (-1, 2), (-1, -2)))
# 1 is fixed, 2 and 3 are not.
K = Formula(3, ((1, 2), (1, -2), (2, 3)))
END = (("add", ()),)
M = (1, -2, 3)
N = (-1, 2, -3)


def tried_fixed(formula):
    found = tried_models(formula)
    return tuple(x for v in range(1, formula.n + 1) for x in (v, -v) if all(x in model for model in found))


def slowly_shows_fixed(formula, literals, paper):
    """Whether a pair of refutations in form and of models is a paper, told as the document tells it."""
    refutations, found = paper
    if len(refutations) != len(literals) or not found or not set(found) <= set(tried_models(formula)):
        return False
    if not all(slowly_refutes(formula.under((-x,)), steps) for x, steps in zip(literals, refutations)):
        return False
    seen = {x for model in found for x in model}
    return all(v in seen and -v in seen for v in range(1, formula.n + 1) if v not in literals and -v not in literals)


class TestFixed(Case):
    def test_literals_true_in_all_models(self):
        self.assertSame([fixed(F), fixed(H), fixed(formula=K)], [(), (1, 2), (1,)])
        self.assertSame(fixed(Formula(3, ((-2,), (2, 3)))), (-2, 3))

    def test_edges(self):
        self.assertSame(fixed(Formula(0, ())), ())
        self.assertSame(fixed(Formula(4, ())), ())
        self.assertSame(fixed(Formula(3, ((-3,), (-3,), (1, -3)))), (-3,))
        self.assertSame(fixed_claim(Formula(0, ())), ("fixed", ()))
        self.assertSame(fixed_paper(Formula(0, ())), ((), ((),)))

    def test_shut_formulas(self):
        for formula in (G, SQUARE, Formula(0, ((),)), Formula(3, ((1,), ()))):
            self.assertRaisesWith(Undefined, {"what": "model"}, fixed, formula)
            self.assertSame(fixed_claim(formula), ("shut", ()))
            self.assertTrue(slowly_refutes(formula, fixed_paper(formula)))

    def test_against_all_rows(self):
        some = 0
        for formula in random_formulas(61, 900, 6, 16):
            if not tried_models(formula):
                self.assertRaisesWith(Undefined, {"what": "model"}, fixed, formula)
                self.assertSame(fixed_claim(formula), ("shut", ()))
                self.assertTrue(slowly_refutes(formula, fixed_paper(formula)))
                continue
            literals = tried_fixed(formula)
            self.assertSame(fixed(formula), literals)
            claim = ("fixed", literals)
            self.assertSame(fixed_claim(formula), claim)
            paper = fixed_paper(formula)
            self.assertSame(fixed_paper(formula), paper)
            self.assertTrue(slowly_shows_fixed(formula, literals, paper))
            self.assertHolds(fixed_holds, formula, claim, paper)
            some += 0 < len(literals) < formula.n
        self.assertGreater(some, 150)

    def test_other_claims_have_no_paper(self):
        rng = random.Random(62)
        for formula in random_formulas(63, 300, 4, 8):
            paper = fixed_paper(formula)
            found = tried_models(formula)
            for _ in range(8):
                literals = tuple(v * rng.choice((1, -1)) for v in range(1, formula.n + 1) if rng.random() < 0.5)
                for other in (paper, ((END,) * len(literals), found), (paper[0], found), ((), found)):
                    held = fixed_holds(formula, ("fixed", literals), other)
                    self.assertIs(held, bool(found) and len(other) == 2 and len(other[0]) == len(literals)
                                  and slowly_shows_fixed(formula, literals, other))
                    if held:
                        self.assertEqual(literals, tried_fixed(formula))


class TestFixedHolds(Case):
    def test_a_paper(self):
        self.assertHolds(fixed_holds, H, ("fixed", (1, 2)), ((END, END), ((1, 2),)))
        self.assertHolds(fixed_holds, F, ("fixed", ()), ((), (M, N)))
        self.assertHolds(fixed_holds, F, ("fixed", ()), ((), (N, M, N)))
        self.assertIs(fixed_holds(formula=H, claim=("fixed", (1, 2)), paper=((END, END), ((1, 2), (1, 2)))), True)

    def test_only_of_fixed(self):
        self.assertNot(fixed_holds, G, ("shut", ()), END)
        self.assertNot(fixed_holds, G, ("shut", ()), fixed_paper(G))
        self.assertNot(fixed_holds, F, ("open", ()), M)
        self.assertNot(fixed_holds, H, ("alike", 1, 2), (END, END))
        self.assertNot(fixed_holds, H, ("unfixed", (1, 2)), ((END, END), ((1, 2),)))

    def test_a_shut_formula_has_none(self):
        for found in ((), ((1,),), ((-1,),), ((),)):
            for literals in ((), (1,), (-1,)):
                self.assertNot(fixed_holds, G, ("fixed", literals), ((END,) * len(literals), found))

    def test_models_that_are_lacking(self):
        self.assertNot(fixed_holds, F, ("fixed", ()), ((), (M,)))
        self.assertNot(fixed_holds, F, ("fixed", ()), ((), (N, N)))
        self.assertNot(fixed_holds, F, ("fixed", ()), ((), ()))
        self.assertNot(fixed_holds, H, ("fixed", (1, 2)), ((END, END), ()))
        self.assertNot(fixed_holds, Formula(0, ()), ("fixed", ()), ((), ()))
        self.assertHolds(fixed_holds, Formula(0, ()), ("fixed", ()), ((), ((),)))
        found = ((1, 2, 3), (1, 2, -3), (1, -2, 3))
        self.assertHolds(fixed_holds, K, ("fixed", (1,)), ((END,), found))
        self.assertNot(fixed_holds, K, ("fixed", (1,)), ((END,), found[:2]))
        self.assertNot(fixed_holds, K, ("fixed", (1,)), ((END,), found[::2]))
        self.assertHolds(fixed_holds, K, ("fixed", (1,)), ((END,), found[1:]))

    def test_models_that_are_none(self):
        for other in ((1, 2, 3), (1, -2), (1, -2, -3), (1, -2, 3, 4), (), (3, -2, 1)):
            self.assertNot(fixed_holds, F, ("fixed", ()), ((), (M, N, other)))

    def test_refutations_too_many_too_few_or_in_another_order(self):
        formula = Formula(3, ((1, 2), (1, -2), (3,)))
        steps = (("add", (2,)),) + END
        found = ((1, 2, 3), (1, -2, 3))
        claim = ("fixed", (1, 3))
        self.assertHolds(fixed_holds, formula, claim, ((steps, END), found))
        self.assertHolds(fixed_holds, formula, claim, ((END, END), found))
        for refutations in ((), (END,), (END, END, END), (END, ()), ((), END), (steps, (("add", (2,)),)), END):
            self.assertNot(fixed_holds, formula, claim, (refutations, found))
        drop = (("drop", (3,)),) + END
        self.assertHolds(fixed_holds, formula, claim, ((drop, END), found))
        self.assertNot(fixed_holds, formula, claim, ((END, drop), found))

    def test_literals_that_are_not_fixed(self):
        for literals in ((-1,), (2,), (1, 2), (1, 3), ()):
            self.assertNot(fixed_holds, K, ("fixed", literals), ((END,) * len(literals), tried_models(K)))
        self.assertHolds(fixed_holds, K, ("fixed", (1,)), ((END,), tried_models(K)))

    def test_a_paper_of_another_formula(self):
        paper = ((END, END), ((1, 2),))
        self.assertNot(fixed_holds, Formula(2, ((1,),)), ("fixed", (1, 2)), paper)
        self.assertNot(fixed_holds, Formula(3, H.clauses), ("fixed", (1, 2)), paper)
        self.assertNot(fixed_holds, H, ("fixed", (1,)), paper)
        self.assertNot(fixed_holds, F, ("fixed", ()), ((), ((1, 2), (-1, -2))))

    def test_odd_claims_and_papers(self):
        self.assertLooksClosely(fixed_holds, H, ("fixed", (1, 2)), ((END, END), ((1, 2),)))
        self.assertLooksClosely(fixed_holds, F, ("fixed", ()), ((), (M, N)))
        self.assertLooksClosely(fixed_holds, K, ("fixed", (1,)), fixed_paper(K))
        for claim in (("fixed", (2, 1)), ("fixed", (1, 2), ()), ("fixed",), ("fixed", (1, 2, 3)), ("fixed", (0, 1, 2)),
                      ((1, 2), "fixed"), ("fixed", 1), ("fixed", ((1, 2),)), ("fixed", (1, 1, 2))):
            self.assertNot(fixed_holds, H, claim, ((END, END), ((1, 2),)))
        for paper in ((END, END), ((END, END),), ((END, END), ((1, 2),), ()), (((1, 2),), (END, END)), ((), ()),
                      ((END, END), (1, 2)), (END, ((1, 2),))):
            self.assertNot(fixed_holds, H, ("fixed", (1, 2)), paper)


class TestAlike(Case):
    def test_claims(self):
        self.assertSame(alike_claim(F, 1, 3), ("alike", 1, 3))
        self.assertSame(alike_claim(F, 3, 1), ("alike", 3, 1))
        self.assertSame(alike_claim(F, 1, 2), ("unlike", 1, 2))
        self.assertSame(alike_claim(formula=F, a=1, b=-2), ("alike", 1, -2))
        self.assertSame(alike_claim(H, 1, 2), ("alike", 1, 2))
        self.assertSame(alike_claim(H, -2, 1), ("unlike", -2, 1))

    def test_edges(self):
        for formula in (SQUARE, Formula(2, ((),))):
            for a, b in ((1, 2), (1, -2), (-2, -1)):
                self.assertSame(alike_claim(formula, a, b), ("alike", a, b))
                self.assertHolds(alike_holds, formula, ("alike", a, b), alike_paper(formula, a, b))
        self.assertSame(alike_claim(Formula(2, ()), 1, 2), ("unlike", 1, 2))

    def test_wrong_literals(self):
        for a, b in ((1, -1), (1, 1), (0, 1), (1, 0), (4, 1), (1, -4), (True, 2), (2, True), (None, 1), (1, None),
                     ("1", 2), ((1,), 2), ([1], 2), ([1], [2]), (F, 2), (1, (2,)), (False, None), (10 ** 13, 1)):
            for call in (alike_claim, alike_paper):
                self.assertRaisesWith(InvalidLiterals, {"value": (a, b)}, call, F, a, b)
        self.assertRaisesWith(InvalidLiterals, {"value": (1, 2)}, alike_claim, G, 1, 2)
        self.assertRaisesWith(InvalidLiterals, {"value": (1, 2)}, alike_paper, Formula(0, ((),)), 1, 2)

    def test_against_all_rows(self):
        rng = random.Random(64)
        told = {"alike": 0, "unlike": 0}
        for formula in random_formulas(65, 1500, 5, 10, 2):
            if formula.n < 2:
                continue
            a, b = [v * rng.choice((1, -1)) for v in rng.sample(range(1, formula.n + 1), 2)]
            found = tried_models(formula)
            alike = all((a in model) == (b in model) for model in found)
            claim = ("alike" if alike else "unlike", a, b)
            told[claim[0]] += bool(found)
            self.assertSame(alike_claim(formula, a, b), claim)
            paper = alike_paper(formula, a, b)
            self.assertSame(alike_paper(formula, a, b), paper)
            self.assertHolds(alike_holds, formula, claim, paper)
            self.assertNot(alike_holds, formula, ("unlike" if alike else "alike", a, b), paper)
            if alike:
                self.assertEqual(len(paper), 2)
                for row, steps in zip(((a, -b), (-a, b)), paper):
                    self.assertTrue(slowly_refutes(formula.under(tuple(sorted(row, key=abs))), steps))
                for model in found:
                    self.assertNot(alike_holds, formula, ("unlike", a, b), model)
            else:
                self.assertIn(paper, found)
                self.assertNotEqual(a in paper, b in paper)
        self.assertGreater(min(told.values()), 60)


class TestAlikeHolds(Case):
    def test_papers(self):
        self.assertHolds(alike_holds, F, ("unlike", 1, 2), M)
        self.assertHolds(alike_holds, F, ("unlike", 2, 1), N)
        self.assertHolds(alike_holds, F, ("alike", 1, 3), (END, END))
        self.assertIs(alike_holds(formula=F, claim=("alike", 3, 1), paper=(END, END)), True)
        self.assertNot(alike_holds, F, ("unlike", 1, 3), M)
        self.assertNot(alike_holds, F, ("unlike", 1, -2), M)
        self.assertNot(alike_holds, F, ("alike", 1, 2), (END, END))
        self.assertNot(alike_holds, F, ("alike", 1, 3), M)

    def test_the_two_refutations_in_their_order(self):
        # Under 1 and -2 the clause (1) is there twice, under -1 and 2 once.
        formula = Formula(2, ((1,), (2,)))
        once = (("drop", (1,)),) + END
        both = (("drop", (-2,)), ) + END
        self.assertHolds(alike_holds, formula, ("alike", 1, 2), (once, END))
        self.assertNot(alike_holds, formula, ("alike", 1, 2), (END, both))
        self.assertNot(alike_holds, formula, ("alike", 1, 2), ((("drop", (-1,)),) + END, END))
        one_way = Formula(2, ((-1, 2), (1, -2)))
        first = (("drop", (1, -2)),) + END
        second = (("drop", (-1, 2)),) + END
        self.assertHolds(alike_holds, one_way, ("alike", 1, 2), (first, second))
        self.assertNot(alike_holds, one_way, ("alike", 1, 2), (second, first))
        self.assertHolds(alike_holds, one_way, ("alike", 2, 1), (second, first))
        self.assertHolds(alike_holds, one_way, ("alike", -1, -2), (second, first))
        self.assertNot(alike_holds, one_way, ("alike", -1, -2), (first, second))

    def test_one_refutation_alone(self):
        formula = Formula(2, ((-1, 2),))
        self.assertNot(alike_holds, formula, ("alike", 1, 2), (END, END))
        for paper in ((END,), (END, END, END), END, (), (END, ()), ((), END)):
            self.assertNot(alike_holds, F, ("alike", 1, 3), paper)

    def test_models_in_which_both_or_none_are_true(self):
        formula = Formula(3, ((3,),))
        for model, holds in (((1, 2, 3), False), ((-1, -2, 3), False), ((1, -2, 3), True), ((-1, 2, 3), True),
                             ((1, -2, -3), False), ((1, -2), False)):
            self.assertIs(alike_holds(formula, ("unlike", 1, 2), model), holds)
            self.assertIs(alike_holds(formula, ("unlike", -2, -1), model), holds)

    def test_a_paper_of_another_formula_or_other_literals(self):
        self.assertNot(alike_holds, Formula(3, ()), ("alike", 1, 3), (END, END))
        self.assertNot(alike_holds, F.with_clause((2,)), ("unlike", 1, 2), M)
        self.assertNot(alike_holds, Formula(4, F.clauses), ("unlike", 1, 2), M)
        self.assertNot(alike_holds, F, ("unlike", -1, 2), M)
        self.assertNot(alike_holds, Formula(2, ()), ("unlike", 1, 3), (1, -2))

    def test_odd_claims_and_papers(self):
        self.assertLooksClosely(alike_holds, F, ("alike", 1, 3), (END, END))
        self.assertLooksClosely(alike_holds, F, ("unlike", 2, 3), M)
        for claim in (("alike", 1, 1), ("alike", 1, -1), ("alike", 0, 1), ("alike", 1, 4), ("alike", 1), ("alike",),
                      ("alike", 1, 3, 3), ("Alike", 1, 3), ("fixed", (1, 3)), ("alike", (1, 3)), ("alike", (1,), (3,))):
            self.assertNot(alike_holds, F, claim, (END, END))
            self.assertNot(alike_holds, F, claim, M)
        for put in NO_PARTS:
            for other in changed_anywhere((END, END), put):
                self.assertNot(alike_holds, SQUARE, ("unlike", 1, 2), other)
        for odd in ODD_VALUES + (nested(30),):
            self.assertNot(alike_holds, SQUARE, ("alike", 1, 2), (odd, odd))


class TestGroups(Case):
    def test_groups(self):
        self.assertSame(alike_groups(F), ((1, -2, 3),))
        self.assertSame(alike_groups(formula=H), ((1, 2),))
        self.assertSame(alike_groups(Formula(4, ((-1, 3), (1, -3), (2, 4), (-2, -4)))), ((1, 3), (2, -4)))
        self.assertSame(alike_groups(Formula(4, ((-1,), (2,), (-4,)))), ((1, -2, 4),))
        self.assertSame(alike_groups(Formula(3, ())), ())

    def test_a_shut_formula(self):
        for n, groups in ((0, ()), (1, ()), (2, ((1, 2),)), (3, ((1, 2, 3),)), (4, ((1, 2, 3, 4),))):
            self.assertSame(alike_groups(Formula(n, ((),))), groups)
        self.assertSame(alike_groups(G), ())
        self.assertSame(alike_groups(SQUARE), ((1, 2),))

    def test_an_open_formula_of_few_variables(self):
        for n in (0, 1, 2):
            self.assertSame(alike_groups(Formula(n, ())), ())
        self.assertSame(alike_groups(Formula(1, ((1,),))), ())
        self.assertSame(alike_groups(Formula(2, ((-1,), (-2,)))), ((1, 2),))
        self.assertSame(alike_groups(Formula(2, ((-1,), (2,)))), ((1, -2),))

    def test_against_all_rows(self):
        rng = random.Random(67)
        many = 0
        for formula in random_formulas(66, 900, 6, 5):
            # Some literals are made alike.
            for _ in range(rng.randint(0, 3) if formula.n > 1 else 0):
                a, b = [v * rng.choice((1, -1)) for v in sorted(rng.sample(range(1, formula.n + 1), 2))]
                formula = formula.with_clause((a, b)).with_clause((-a, -b))
            expected = tried_groups(formula)
            self.assertSame(alike_groups(formula), expected)
            many += len(expected) > 1
        self.assertGreater(many, 20)

    def test_the_formula_stays_as_it_is(self):
        before = repr((F.n, F.clauses))
        fixed(F), fixed_claim(F), fixed_paper(F), alike_claim(F, 1, 2), alike_paper(F, 1, 2), alike_groups(F)
        fixed_holds(F, ("fixed", ()), ((), (M, N))), alike_holds(F, ("alike", 1, 3), (END, END))
        self.assertEqual(repr((F.n, F.clauses)), before)


def tried_groups(formula):
    """The groups by trying all rows, as the document tells them."""
    found = tried_models(formula)
    if not found:
        return (tuple(range(1, formula.n + 1)),) if formula.n > 1 else ()
    literals = [x for v in range(1, formula.n + 1) for x in (v, -v)]
    groups = {tuple(x for x in literals if all((x in model) == (y in model) for model in found)) for y in literals}
    return tuple(sorted(group for group in groups if len(group) > 1 and group[0] > 0))


if __name__ == "__main__":
    unittest.main()
