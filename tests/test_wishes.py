"""Points [21] and [22]: wishes, and loss trees."""

import random
import unittest

from clausehold.errors import InvalidWishes, Undefined
from clausehold.formulas import Formula
from clausehold.wishes import best_models, least_claim, least_holds, least_loss, least_paper
from tests.helpers import (
    NO_PARTS, ODD_VALUES, Case, nested, random_clause, random_formulas, random_row, slowly_refutes, tried_models,
)

F = Formula(3, ((1, 2), (-1, 3), (-2, -3)))
G = Formula(1, ((1,), (-1,)))
SQUARE = Formula(2, ((1, 2), (1, -2), (-1, 2), (-1, -2)))
W = (((1,), 3), ((2,), 5))
END = (("add", ()),)
S = ("shut", END)
CLAIM = ("least", W, 3)
MODEL = (-1, 2, -3)
TREE = ("cores", (((0, 1), 3, END),))
PAPER = (MODEL, TREE)
NO_WISHES = (
    (((1,), 0),), (((1,), -1),), (((1,), True),), (((1,), None),), (((1,), "1"),), (((1,), (1,)),), (((1,),),),
    (((1,), 1, 1),), ((1, 1),), (((2, 1), 1),), (((4,), 1),), (((0,), 1),), (((1, -1), 1),), (((1, 1), 1),),
    (((True,), 1),), [], [((1,), 1)], ([(1,), 1],), (([1], 1),), (((1,), [1]),), (((1,), 1), []), (((1,), 1), None),
    None, True, 0, 1, "", "wishes", ((1,), 1), (1,), ((),), (((),),), ((), 1), {}, F, (F,), ((F, 1),), (((1,), F),),
    nested(30), nested(30, list), (((1,), 1.0),), ((None, 1),), (("1", 1),), (((1,), 2), ((1,), 0)),
)


def tried_loss(wishes, model):
    return sum(weight for clause, weight in wishes if not set(clause) & set(model))


def random_wishes(rng, n, most=6):
    wishes = [(random_row(rng, n) if rng.random() < 0.3 else random_clause(rng, n, 2), rng.randint(1, 9))
              for _ in range(rng.randint(0, most))]
    if wishes and rng.random() < 0.2:
        wishes.append(rng.choice(wishes))
    return tuple(wishes)


def slowly_shows(formula, wishes, w, tree, row=()):
    """Whether a tree in form is a loss tree that shows w, told as the document tells it."""
    if tree[0] == "shut":
        return slowly_refutes(formula.under(row), tree[1])
    if tree[0] == "split":
        v = tree[1]
        if v in row or -v in row or not 1 <= v <= formula.n:
            return False
        return all(slowly_shows(formula, wishes, w, part, tuple(sorted(row + (x,), key=abs)))
                   for x, part in ((v, tree[2]), (-v, tree[3])))
    for place, (_, weight) in enumerate(wishes):
        if sum(much for places, much, _ in tree[1] if place in places) > weight:
            return False
    for places, much, steps in tree[1]:
        if not places or list(places) != sorted(set(places)) or much < 1:
            return False
        clauses = formula.under(row).clauses + tuple(wishes[place][0] for place in places)
        if not slowly_refutes(Formula(formula.n, clauses), steps):
            return False
    return sum(much for _, much, _ in tree[1]) >= w


class TestLeastLoss(Case):
    def test_losses(self):
        self.assertSame(least_loss(F, W), 3)
        self.assertSame(best_models(F, W), (MODEL,))
        self.assertSame(least_claim(F, W), CLAIM)
        self.assertSame(least_loss(formula=F, wishes=(((3,), 2), ((1,), 2))), 0)
        self.assertSame(best_models(formula=F, wishes=(((-3,), 2),)), (MODEL,))
        self.assertSame(least_claim(formula=G, wishes=W[:1]), ("shut", ()))

    def test_edges(self):
        self.assertSame([least_loss(F, ()), best_models(F, ())], [0, tried_models(F)])
        self.assertSame(least_claim(F, ()), ("least", (), 0))
        self.assertSame([least_loss(F, (((), 7),)), best_models(F, (((), 7),))], [7, tried_models(F)])
        self.assertSame([least_loss(F, W + W), least_loss(F, W + W[:1])], [6, 5])
        self.assertSame(best_models(F, W + W[:1]), ((1, -2, 3),))
        empty = Formula(0, ())
        self.assertSame([least_loss(empty, ()), best_models(empty, ())], [0, ((),)])
        self.assertSame([least_loss(empty, (((), 99),) * 8), best_models(empty, (((), 99),))], [792, ((),)])
        for formula, wishes in ((F, ()), (F, (((), 7),)), (F, W + W), (F, W + W[:1]), (empty, (((), 99),) * 8), (empty, ())):
            self.assertHolds(least_holds, formula, least_claim(formula, wishes), least_paper(formula, wishes))

    def test_all_best_models_in_order(self):
        formula = Formula(3, ((1, 2, 3),))
        wishes = (((-1,), 2), ((-2,), 2), ((-3,), 2))
        self.assertSame(best_models(formula, wishes), ((1, -2, -3), (-1, 2, -3), (-1, -2, 3)))

    def test_shut_formulas(self):
        for formula in (G, Formula(1, ((),)), Formula(1, ((1,), (-1,), ()))):
            for wishes in ((), (((1,), 3),), (((), 1),)):
                for call in (least_loss, best_models):
                    self.assertRaisesWith(Undefined, {"what": "model"}, call, formula, wishes)
                self.assertSame(least_claim(formula, wishes), ("shut", ()))
                self.assertTrue(slowly_refutes(formula, least_paper(formula, wishes)))
        self.assertTrue(slowly_refutes(SQUARE, least_paper(SQUARE, W)))

    def test_what_are_no_wishes(self):
        for wrong in NO_WISHES:
            for formula in (F, Formula(3, ((),)), Formula(3, ())):
                for call in (least_loss, best_models, least_claim, least_paper):
                    self.assertRaisesWith(InvalidWishes, {"value": wrong}, call, formula, wrong)
        self.assertRaisesWith(InvalidWishes, {"value": W}, least_loss, G, W)
        self.assertRaisesWith(InvalidWishes, {"value": (((1,), 1),)}, least_paper, Formula(0, ()), (((1,), 1),))

    def test_against_all_rows(self):
        rng = random.Random(101)
        lost = 0
        for formula in random_formulas(102, 900, 5, 10):
            wishes = random_wishes(rng, formula.n)
            found = tried_models(formula)
            if not found:
                for call in (least_loss, best_models):
                    self.assertRaisesWith(Undefined, {"what": "model"}, call, formula, wishes)
                self.assertSame(least_claim(formula, wishes), ("shut", ()))
                self.assertTrue(slowly_refutes(formula, least_paper(formula, wishes)))
                continue
            w = min(tried_loss(wishes, model) for model in found)
            self.assertSame(least_loss(formula, wishes), w)
            self.assertSame(best_models(formula, wishes), tuple(x for x in found if tried_loss(wishes, x) == w))
            claim = ("least", wishes, w)
            self.assertSame(least_claim(formula, wishes), claim)
            paper = least_paper(formula, wishes)
            self.assertSame(least_paper(formula, wishes), paper)
            self.assertIn(paper[0], best_models(formula, wishes))
            self.assertTrue(slowly_shows(formula, wishes, w, paper[1]))
            self.assertHolds(least_holds, formula, claim, paper)
            for other in (w + 1, w - 1, -1):
                self.assertNot(least_holds, formula, ("least", wishes, other), paper)
            lost += w > 0
        self.assertGreater(lost, 150)

    def test_papers_that_need_splits(self):
        # One of three, and no two of them: a core is any two, so that all cores show less than there is to lose.
        formula = Formula(3, ((-1, -2), (-1, -3), (-2, -3)))
        wishes = (((1,), 1), ((2,), 1), ((3,), 1))
        self.assertSame(least_loss(formula, wishes), 2)
        paper = least_paper(formula, wishes)
        self.assertEqual(paper[1][0], "split")
        self.assertHolds(least_holds, formula, ("least", wishes, 2), paper)
        # Two such threes, behind a variable that is fixed: one split is not enough.
        twice = Formula(7, ((1,), (-2, -3), (-2, -4), (-3, -4), (-5, -6), (-5, -7), (-6, -7)))
        wishes = tuple(((v,), 1) for v in range(2, 8))
        paper = least_paper(twice, wishes)
        self.assertSame(least_claim(twice, wishes), ("least", wishes, 4))
        self.assertHolds(least_holds, twice, ("least", wishes, 4), paper)
        self.assertTrue(slowly_shows(twice, wishes, 4, paper[1]))
        odd = Formula(7, ((-1, -2), (-2, -3), (-3, -4), (-4, -5), (-5, -6), (-6, -7), (-1, -7)))
        wishes = tuple(((v,), 2 * v + 1) for v in range(1, 8)) + (((1, 3, 5), 9),)
        self.assertHolds(least_holds, odd, least_claim(odd, wishes), least_paper(odd, wishes))
        self.assertSame(least_loss(odd, wishes), min(tried_loss(wishes, model) for model in tried_models(odd)))

    def test_as_many_as_there_may_be(self):
        rng = random.Random(103)
        for _ in range(30):
            formula = Formula(7, [random_clause(rng, 7, 4) for _ in range(rng.randint(0, 20))])
            wishes = tuple((random_clause(rng, 7, 3), rng.randint(1, 99)) for _ in range(8))
            if tried_models(formula):
                w = min(tried_loss(wishes, model) for model in tried_models(formula))
                self.assertSame(least_claim(formula, wishes), ("least", wishes, w))
                self.assertHolds(least_holds, formula, ("least", wishes, w), least_paper(formula, wishes))

    def test_the_formula_stays_as_it_is(self):
        before = repr((F.n, F.clauses, W))
        least_loss(F, W), best_models(F, W), least_claim(F, W), least_paper(F, W), least_holds(F, CLAIM, PAPER)
        self.assertEqual(repr((F.n, F.clauses, W)), before)


class TestLeastHolds(Case):
    def test_a_paper(self):
        self.assertHolds(least_holds, F, CLAIM, PAPER)
        self.assertIs(least_holds(formula=F, claim=CLAIM, paper=PAPER), True)
        self.assertHolds(least_holds, F, CLAIM, (MODEL, ("split", 1, TREE, TREE)))
        self.assertHolds(least_holds, F, CLAIM, (MODEL, ("split", 1, ("cores", (((1,), 5, END),)),
                                                         ("cores", (((0,), 3, END),)))))

    def test_only_of_least(self):
        self.assertNot(least_holds, G, ("shut", ()), END)
        self.assertNot(least_holds, G, ("shut", ()), least_paper(G, ()))
        self.assertNot(least_holds, F, ("most", W, 3), PAPER)
        self.assertNot(least_holds, F, ("open", ()), MODEL)

    def test_the_model_has_the_loss(self):
        for model in ((1, -2, 3), (-1, 2, 3), (-1, 2), (), (1, 2, 3), (-1, 2, -3, 4), 3, "m", (MODEL,)):
            self.assertNot(least_holds, F, CLAIM, (model, TREE))
        for w in (0, 1, 2, 4, 5, 8, -3):
            self.assertNot(least_holds, F, ("least", W, w), PAPER)
        self.assertNot(least_holds, F, ("least", W, 5), ((1, -2, 3), TREE))
        self.assertNot(least_holds, F, ("least", W, 5), ((1, -2, 3), ("cores", (((0, 1), 3, END), ((1,), 2, END)))))

    def test_cores_within_the_weights(self):
        for much in (3, 2, 1):
            rows = (((0, 1), much, END),) + (((0, 1), 3 - much, END),) * (much < 3)
            self.assertHolds(least_holds, F, CLAIM, (MODEL, ("cores", rows)))
        for rows in ((((0, 1), 4, END),), (((0, 1), 2, END),), (((0, 1), 2, END), ((0, 1), 2, END)), (), (((0, 1), 5, END),),
                     (((0, 1), 0, END),), (((0, 1), 3, END), ((0, 1), 0, END)), (((0, 1), 4, END), ((0, 1), -1, END)),
                     (((0, 1), 1, END),) * 4, (((0, 1), 1, END),) * 2):
            self.assertNot(least_holds, F, CLAIM, (MODEL, ("cores", rows)))
        self.assertHolds(least_holds, F, CLAIM, (MODEL, ("cores", (((0, 1), 1, END),) * 3)))

    def test_more_than_the_least_may_be_shown_by_a_part(self):
        wishes = (((1,), 9), ((2,), 5))
        tree = ("split", 1, ("cores", (((1,), 5, END),)), ("cores", (((0,), 9, END),)))
        self.assertHolds(least_holds, F, ("least", wishes, 5), ((1, -2, 3), tree))

    def test_cores_that_are_open(self):
        for places in ((0,), (1,)):
            self.assertNot(least_holds, F, CLAIM, (MODEL, ("cores", ((places, 3, END),))))
        self.assertNot(least_holds, Formula(3, ()), CLAIM, ((1, -2, 3), TREE))
        self.assertNot(least_holds, F, CLAIM, (MODEL, ("cores", (((0, 1), 3, ()),))))
        self.assertNot(least_holds, F, CLAIM, (MODEL, ("cores", (((0, 1), 3, (("add", (1,)),)),))))
        self.assertNot(least_holds, F, CLAIM, (MODEL, ("split", 1, ("cores", (((0,), 3, END),)), TREE)))

    def test_places(self):
        for places in ((), (1, 0), (0, 0), (0, 2), (-1, 0), (0, 1, 2), (0, 1, 1), 0, "01", ((0, 1),), (-2, -1), (0, "1")):
            self.assertNot(least_holds, F, CLAIM, (MODEL, ("cores", ((places, 3, END),))))

    def test_no_places_of_a_shut_row(self):
        # Shut under 1 and 2, so that a core of no wish at all would show anything.
        tree = ("split", 1, ("split", 2, ("cores", (((), 3, END),)), TREE), TREE)
        self.assertNot(least_holds, F, CLAIM, (MODEL, tree))
        tree = ("split", 1, ("split", 2, S, TREE), TREE)
        self.assertHolds(least_holds, F, CLAIM, (MODEL, tree))

    def test_a_refutation_has_the_clauses_of_its_wishes(self):
        formula = Formula(2, ((1, 2), (1, -2)))
        claim = ("least", (((-1,), 2), ((-1,), 3)), 5)
        drop = (("drop", (-1,)),) + END
        self.assertHolds(least_holds, formula, claim, ((1, 2), ("cores", (((0,), 2, END), ((1,), 3, END)))))
        self.assertNot(least_holds, formula, claim, ((1, 2), ("cores", (((0,), 2, drop), ((1,), 3, END)))))
        self.assertNot(least_holds, formula, claim, ((1, 2), ("cores", (((0,), 2, END), ((1,), 3, drop)))))
        # The clauses of all wishes of a row stand there, also where they are like each other.
        claim = ("least", (((-1,), 2), ((-1,), 2), ((2,), 2)), 2)
        formula = Formula(2, ((1, -2), (1, 2), (-1, -2)))
        self.assertNot(least_holds, formula, claim, ((1, -2), ("cores", (((0, 1), 2, drop),))))
        claim = ("least", (((-1,), 2), ((-1,), 2), ((2,), 2)), 6)
        self.assertNot(least_holds, formula, claim, ((1, -2), ("cores", (((0, 1), 2, drop), ((2,), 2, END)))))
        self.assertHolds(least_holds, formula, claim, (
            (1, -2), ("cores", (((0,), 1, END), ((0,), 1, END), ((1,), 2, END), ((2,), 2, (("add", (1,)),) + END)))))

    def test_a_row_of_two_wishes_of_one_clause(self):
        # The clause stands twice then: a refutation can drop one.
        claim = ("least", (((1,), 2), ((1,), 2), ((-1,), 2)), 2)
        yes = ("cores", (((2,), 2, END),))
        drop = (("drop", (1,)),) + END
        free = Formula(1, ())
        self.assertHolds(least_holds, free, claim, ((1,), ("split", 1, yes, ("cores", (((0, 1), 2, drop),)))))
        self.assertNot(least_holds, free, claim, ((1,), ("split", 1, yes, ("cores", (((0,), 2, drop),)))))
        self.assertNot(least_holds, free, claim, ((1,), ("split", 1, yes, ("cores", (((0, 1), 2, drop[:1] + drop),)))))
        self.assertNot(least_holds, free, claim, ((1,), ("split", 1, ("cores", (((0, 1), 2, drop),)), yes)))

    def test_a_part_that_is_shut(self):
        wishes = (((-1,), 4),)
        formula = Formula(2, ((1, 2), (1, -2)))
        core = ("cores", (((0,), 4, END),))
        self.assertHolds(least_holds, formula, ("least", wishes, 4), ((1, 2), ("split", 1, core, S)))
        self.assertNot(least_holds, formula, ("least", wishes, 4), ((1, 2), ("split", 1, S, S)))
        self.assertNot(least_holds, formula, ("least", wishes, 4), ((1, 2), ("split", 1, S, core)))
        self.assertNot(least_holds, formula, ("least", wishes, 4), ((1, 2), S))
        self.assertNot(least_holds, formula, ("least", wishes, 4), ((1, 2), ("split", 1, core, ("shut", ()))))

    def test_split_variables(self):
        self.assertHolds(least_holds, F, CLAIM, (MODEL, ("split", 3, ("split", 1, TREE, TREE), TREE)))
        for v in (0, 4, -1, -2, "1", (1,), (), 10 ** 13, True, None, 1.0):
            self.assertNot(least_holds, F, CLAIM, (MODEL, ("split", v, TREE, TREE)))
        self.assertNot(least_holds, F, CLAIM, (MODEL, ("split", 1, ("split", 1, TREE, TREE), TREE)))
        self.assertNot(least_holds, F, CLAIM, (MODEL, ("split", 1, TREE, ("split", 1, TREE, TREE))))
        self.assertNot(least_holds, F, CLAIM, (MODEL, ("split", 2, ("split", 3, TREE, ("split", 2, TREE, TREE)), TREE)))

    def test_the_row_is_kept_in_literal_order(self):
        # Under 1 and 3, in whichever order they are split, steps are looked at alike.
        formula = Formula(3, ((-1, 2), (-2, -3)))
        tree = ("split", 3, ("split", 1, S, ("cores", ())), ("cores", ()))
        self.assertHolds(least_holds, formula, ("least", (), 0), ((1, 2, -3), tree))
        tree = ("split", 1, ("split", 3, S, ("cores", ())), ("cores", ()))
        self.assertHolds(least_holds, formula, ("least", (), 0), ((1, 2, -3), tree))

    def test_nothing_to_lose(self):
        self.assertHolds(least_holds, F, ("least", (), 0), (MODEL, ("cores", ())))
        self.assertHolds(least_holds, F, ("least", W[:1], 0), ((1, -2, 3), ("cores", ())))
        self.assertHolds(least_holds, Formula(0, ()), ("least", (), 0), ((), ("cores", ())))
        self.assertNot(least_holds, Formula(0, ((),)), ("least", (), 0), ((), ("cores", ())))
        self.assertNot(least_holds, F, ("least", (), 0), ((1, 2, 3), ("cores", ())))
        self.assertNot(least_holds, F, ("least", (), -1), (MODEL, ("cores", ())))

    def test_wishes_that_are_none(self):
        for wrong in NO_WISHES:
            for tree in (TREE, ("cores", ())):
                for w in (0, 1, 3):
                    self.assertNot(least_holds, F, ("least", wrong, w), (MODEL, tree))

    def test_papers_of_another_formula_number_or_of_other_wishes(self):
        self.assertNot(least_holds, F, ("least", W[::-1], 3), (MODEL, ("cores", (((0, 1), 4, END),))))
        self.assertHolds(least_holds, F, ("least", W[::-1], 3), PAPER)
        self.assertNot(least_holds, F, ("least", W[:1], 3), PAPER)
        self.assertNot(least_holds, F, ("least", (((1,), 2), ((2,), 5)), 2), PAPER)
        self.assertHolds(least_holds, F, ("least", (((1,), 3), ((2,), 4)), 3), PAPER)
        self.assertNot(least_holds, F, ("least", (((1,), 3), ((2,), 2)), 3), PAPER)
        self.assertNot(least_holds, F.with_clause((1,)), CLAIM, PAPER)
        self.assertNot(least_holds, F.without(1), CLAIM, PAPER)
        self.assertNot(least_holds, Formula(4, F.clauses), CLAIM, PAPER)

    def test_odd_claims_and_papers(self):
        # A greater weight of a wish may be right.
        parts = [part for part in NO_PARTS if part.__class__ is not int or part < 0]
        self.assertLooksClosely(least_holds, F, CLAIM, PAPER, parts)
        self.assertLooksClosely(least_holds, F, CLAIM, (MODEL, ("split", 1, ("split", 2, S, TREE), TREE)), parts)
        self.assertLooksClosely(least_holds, F, ("least", (), 0), (MODEL, ("cores", ())))
        for claim in (("least", W), ("least", W, 3, 3), ("Least", W, 3), (W, 3, "least"), ("least", 3, W), ("least",)):
            self.assertNot(least_holds, F, claim, PAPER)
        for tree in (("cores",), ("cores", TREE[1], ()), ("Cores", TREE[1]), ("cores", ((0, 1), 3, END)), (), "cores", END,
                     ("cores", (((0, 1), 3),)), ("cores", (((0, 1), 3, END, ()),)), ("split", 1, TREE), (TREE,),
                     ("split", 1, TREE, TREE, TREE), ("free",), ("shut",), ("parts", (TREE, TREE)), ("shut", END, END)):
            self.assertNot(least_holds, F, CLAIM, (MODEL, tree))
        for paper in ((MODEL,), (TREE, MODEL), (MODEL, TREE, ()), TREE, MODEL, ((MODEL, TREE),), (MODEL, (TREE,))):
            self.assertNot(least_holds, F, CLAIM, paper)
        for odd in ODD_VALUES:
            self.assertNot(least_holds, F, ("least", odd, 3), PAPER)
            self.assertNot(least_holds, F, CLAIM, (odd, TREE))
            self.assertNot(least_holds, F, CLAIM, (MODEL, odd))

    def test_random_trees_against_the_words_of_the_document(self):
        rng = random.Random(104)
        held = 0
        for formula in random_formulas(105, 700, 3, 5):
            found = tried_models(formula)
            if not found:
                continue
            wishes = random_wishes(rng, formula.n, 3)
            w = min(tried_loss(wishes, model) for model in found)
            model = rng.choice([x for x in found if tried_loss(wishes, x) == w])
            tree = self.random_tree(rng, formula, wishes, w, ())
            shows = slowly_shows(formula, wishes, w, tree)
            self.assertIs(least_holds(formula, ("least", wishes, w), (model, tree)), shows)
            self.assertFalse(slowly_shows(formula, wishes, w + 1, tree))
            held += shows and w > 0
        self.assertGreater(held, 30)

    def random_tree(self, rng, formula, wishes, w, row):
        free = [v for v in range(1, formula.n + 1) if v not in row and -v not in row]
        if rng.random() < 0.15:
            return S
        if free and rng.random() < 0.6:
            v = rng.choice(free)
            sides = [self.random_tree(rng, formula, wishes, w, tuple(sorted(row + (x,), key=abs))) for x in (v, -v)]
            return ("split", v, sides[0], sides[1])
        if slowly_refutes(formula.under(row), END):
            return S
        rows = []
        for place, (clause, weight) in enumerate(wishes):
            if slowly_refutes(Formula(formula.n, formula.under(row).clauses + (clause,)), END) or rng.random() < 0.05:
                rows.append(((place,), weight if rng.random() < 0.9 else weight + 1, END))
        return ("cores", tuple(rows))


if __name__ == "__main__":
    unittest.main()
