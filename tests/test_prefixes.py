"""Points [29] and [30]: each choice of some variables met by a choice of others."""

import random
import unittest
from itertools import product

from clausehold.errors import InvalidPrefix, Undefined
from clausehold.formulas import Formula
from clausehold.prefixes import is_met, met_claim, met_holds, met_paper, ways_to_meet
from tests.helpers import (
    ODD_VALUES, Case, changed_anywhere, nested, random_clause, random_formulas, slowly_refutes, tried_models,
)

Q = Formula(2, ((1, 2), (-1, -2)))
P = (("each", (1,)), ("some", (2,)))
S = (("some", (2,)), ("each", (1,)))
END = (("add", ()),)
DONE = ("done",)
SHUT = ("shut", END)
MET = ("both", ("pick", -2, DONE), ("pick", 2, DONE))
MISSED = ("both", ("pick", 1, SHUT), ("pick", -1, SHUT))
NO_PREFIXES = (
    None, 1, True, "", "each", (), [], [("each", (1,)), ("some", (2,))], (["each", (1,)], ("some", (2,))),
    (("each", [1]), ("some", (2,))), (("each", (1,)), ("some", [2])), (("each", (1,)),), (("some", (2,)),),
    (("each", (1,)), ("some", (2,)), ("some", ())), (("each", ()), ("some", (1, 2))), (("each", (1, 2)), ("some", (2,))),
    (("each", (1,)), ("some", (1,))), (("each", (1,)), ("some", (2,)), ("each", (1,))), (("each", (2, 1)),),
    (("each", (1, 1, 2)),), (("each", (1,)), ("some", (2, 3))), (("each", (1,)), ("some", (3,))), (("each", (0, 1, 2)),),
    (("each", (1, -2)),), (("each", (-1,)), ("some", (2,))), (("all", (1,)), ("some", (2,))), (("Each", (1,)), ("some", (2,))),
    (("", (1,)), ("some", (2,))), ((1, (1,)), ("some", (2,))), ((None, (1,)), ("some", (2,))), (((), (1,)), ("some", (2,))),
    ((["each"], (1,)), ("some", (2,))), (("each", (True,)), ("some", (2,))), (("each", 1), ("some", 2)), ("each", (1, 2)),
    (("each", "1"), ("some", (2,))), (("each", ("1",)), ("some", (2,))), (("each", (1,), ()), ("some", (2,))),
    (("each",), ("some", (1, 2))), (((1,), "each"), ((2,), "some")), (("each", ((1,),)), ("some", (2,))),
    (("each", None), ("some", (1, 2))), ((), ("some", (1, 2))), (None, ("some", (1, 2))), (("some", (1, 2)), "each"), Q, (Q,),
    ((Q, (1,)), ("some", (2,))), (("each", Q), ("some", (2,))), nested(30), nested(30, list), (("each", (1,)), [("some", (2,))]),
    (True, False), ((("each", (1,)), ("some", (2,))),), (("each", (1, 10 ** 13)),), (("each", (None, 2)),),
)


def tried_met(formula, prefix, row=()):
    """Whether the formula is met, by going through all choices."""
    order = [(v, word) for word, variables in prefix for v in variables]
    if len(row) == len(order):
        return all(set(clause) & set(row) for clause in formula.clauses)
    v, word = order[len(row)]
    both = [tried_met(formula, prefix, row + (x,)) for x in (v, -v)]
    return any(both) if word == "some" else all(both)


def slowly_shows(formula, word, left, row, tree):
    """Whether the tree, whose forms fit, is one of met or missed, told as the document tells it."""
    row = tuple(sorted(row, key=abs))
    if tree[0] == "done":
        return word == "met" and all(set(clause) & set(row) for clause in formula.clauses)
    if tree[0] == "shut":
        return word == "missed" and slowly_refutes(formula.under(row), tree[1])
    if not left:
        return False
    v, group = left[0]
    if tree[0] == "both":
        if (word, group) not in (("met", "each"), ("missed", "some")):
            return False
        return all(slowly_shows(formula, word, left[1:], row + (x,), part) for x, part in ((v, tree[1]), (-v, tree[2])))
    if (word, group) not in (("met", "some"), ("missed", "each")) or tree[1] not in (v, -v):
        return False
    return slowly_shows(formula, word, left[1:], row + (tree[1],), tree[2])


def order_of(prefix):
    return [(v, word) for word, variables in prefix for v in variables]


def random_prefix(rng, n):
    variables = list(range(1, n + 1))
    rng.shuffle(variables)
    groups = []
    while variables:
        many = rng.randint(1, len(variables))
        groups.append((rng.choice(("each", "some")), tuple(sorted(variables[:many]))))
        variables = variables[many:]
    return tuple(groups)


def random_tree(rng, formula, word, left, row=()):
    """A tree whose forms fit, right more often than not."""
    if all(set(clause) & set(row) for clause in formula.clauses) and word == "met" and rng.random() < 0.8:
        return DONE
    shut = word == "missed" and slowly_refutes(formula.under(tuple(sorted(row, key=abs))), END)
    if not left or shut and rng.random() < 0.8 or rng.random() < 0.03:
        return DONE if word == "met" else SHUT
    v, group = left[0]
    if ((word, group) in (("met", "each"), ("missed", "some"))) != (rng.random() < 0.03):
        return ("both",) + tuple(random_tree(rng, formula, word, left[1:], row + (x,)) for x in (v, -v))
    literal = rng.choice((v, -v))
    tree = random_tree(rng, formula, word, left[1:], row + (literal,))
    return ("pick", literal if rng.random() < 0.97 else rng.choice((1, -2, 0)), tree)


class TestMet(Case):
    def assertAnswered(self, formula, prefix):
        met = tried_met(formula, prefix)
        self.assertIs(is_met(formula, prefix), met)
        claim = ("met" if met else "missed", prefix)
        self.assertSame(met_claim(formula, prefix), claim)
        paper = met_paper(formula, prefix)
        self.assertSame(met_paper(formula, prefix), paper)
        self.assertTrue(slowly_shows(formula, claim[0], order_of(prefix), (), paper))
        self.assertHolds(met_holds, formula, claim, paper)
        self.assertNot(met_holds, formula, ("missed" if met else "met", prefix), paper)
        return met

    def test_ordinary(self):
        self.assertSame([is_met(Q, P), is_met(Q, S), is_met(formula=Q, prefix=P)], [True, False, True])
        self.assertSame([met_claim(Q, P), met_claim(formula=Q, prefix=S)], [("met", P), ("missed", S)])
        self.assertAnswered(Q, P)
        self.assertAnswered(Q, S)
        self.assertHolds(met_holds, Q, ("met", P), met_paper(formula=Q, prefix=P))

    def test_no_groups(self):
        self.assertIs(self.assertAnswered(Formula(0, ()), ()), True)
        self.assertIs(self.assertAnswered(Formula(0, ((),)), ()), False)
        self.assertSame([met_paper(Formula(0, ()), ()), met_paper(Formula(0, ((),)), ())], [DONE, SHUT])

    def test_one_group_of_all_variables(self):
        for formula in random_formulas(301, 200, 4):
            if formula.n:
                everything = tuple(range(1, formula.n + 1))
                found = tried_models(formula)
                self.assertIs(is_met(formula, (("some", everything),)), len(found) > 0)
                self.assertIs(is_met(formula, (("each", everything),)), len(found) == 2 ** formula.n)
                self.assertAnswered(formula, (("some", everything),))
                self.assertAnswered(formula, (("each", everything),))

    def test_one_variable(self):
        for clauses in ((), ((1,),), ((-1,),), ((1,), (-1,)), ((),)):
            for word in ("each", "some"):
                self.assertAnswered(Formula(1, clauses), ((word, (1,)),))

    def test_groups_whose_variables_do_not_rise_from_group_to_group(self):
        formula = Formula(4, ((1, -3), (-1, 3), (1, 2, 4), (-2, -4)))
        for prefix in ((("each", (3,)), ("some", (1, 4)), ("each", (2,))), (("each", (2, 3)), ("some", (1, 4))),
                       (("some", (4,)), ("each", (2, 3)), ("some", (1,))), (("each", (4,)), ("each", (2,)), ("some", (1, 3)))):
            self.assertAnswered(formula, prefix)
        self.assertIs(is_met(formula, (("each", (2, 3)), ("some", (1, 4)))), True)
        self.assertIs(is_met(formula, (("some", (4,)), ("each", (2, 3)), ("some", (1,)))), False)
        self.assertIs(is_met(formula, (("each", (2,)), ("some", (1, 3, 4)))), True)
        self.assertIs(is_met(formula, (("each", (3,)), ("some", (1, 2, 4)))), True)

    def test_groups_of_one_word_beside_each_other(self):
        for formula in random_formulas(302, 100, 3):
            if formula.n == 3:
                self.assertIs(is_met(formula, (("each", (1,)), ("each", (2,)), ("some", (3,)))),
                              is_met(formula, (("each", (1, 2)), ("some", (3,)))))

    def test_errors(self):
        for wrong in NO_PREFIXES:
            for call in (is_met, met_claim, met_paper, ways_to_meet):
                self.assertRaisesWith(InvalidPrefix, {"value": wrong}, call, Q, wrong)
        for odd in ODD_VALUES:
            self.assertRaisesWith(InvalidPrefix, {"value": odd}, met_claim, Q, odd)
        for n, prefix in ((0, P), (1, P), (3, P), (1, ()), (0, (("each", ()),)), (10 ** 12, P), (10 ** 12, ())):
            self.assertRaisesWith(InvalidPrefix, {"value": prefix}, is_met, Formula(n, ()), prefix)
            self.assertRaisesWith(InvalidPrefix, {"value": prefix}, met_paper, formula=Formula(n, ()), prefix=prefix)

    def test_random_formulas_against_all_choices(self):
        rng = random.Random(303)
        met = 0
        for formula in random_formulas(304, 1200, 5, 9):
            met += self.assertAnswered(formula, random_prefix(rng, formula.n))
        self.assertGreater(met, 200)
        self.assertGreater(1200 - met, 300)

    def test_as_many_variables_as_there_may_be(self):
        rng = random.Random(305)
        met = 0
        for _ in range(25):
            clauses = [clause for clause in (random_clause(rng, 10, 5) for _ in range(30)) if len(clause) > 2]
            prefix = random_prefix(rng, 10)
            formula = Formula(10, clauses)
            claim = met_claim(formula, prefix)
            met += claim[0] == "met"
            self.assertHolds(met_holds, formula, claim, met_paper(formula, prefix))
            self.assertIs(is_met(formula, prefix), tried_met(formula, prefix))
        self.assertGreater(met, 0)

    def test_the_formula_stays_as_it_is(self):
        before = repr((Q.n, Q.clauses))
        is_met(Q, P), met_claim(Q, P), met_paper(Q, P), met_holds(Q, ("met", P), MET), ways_to_meet(Q, P)
        self.assertEqual(repr((Q.n, Q.clauses)), before)


class TestMetHolds(Case):
    def test_papers(self):
        self.assertHolds(met_holds, Q, ("met", P), MET)
        self.assertHolds(met_holds, Q, ("missed", S), MISSED)
        self.assertIs(met_holds(formula=Q, claim=("met", P), paper=MET), True)
        self.assertHolds(met_holds, Formula(2, ()), ("met", P), DONE)
        self.assertHolds(met_holds, Formula(2, ()), ("met", P), ("both", DONE, ("pick", 2, DONE)))
        self.assertHolds(met_holds, Formula(2, ((),)), ("missed", P), SHUT)
        self.assertHolds(met_holds, Formula(2, ((),)), ("missed", P), ("pick", -1, ("both", SHUT, SHUT)))

    def test_done_or_shut_where_it_is_not(self):
        for tree in (DONE, ("both", DONE, ("pick", 2, DONE)), ("both", ("pick", -2, DONE), DONE),
                     ("both", ("pick", 2, DONE), ("pick", 2, DONE)), ("both", ("pick", -2, DONE), ("pick", -2, DONE))):
            self.assertNot(met_holds, Q, ("met", P), tree)
        for tree in (SHUT, ("both", SHUT, ("pick", -1, SHUT)), ("both", ("pick", 1, SHUT), SHUT),
                     ("both", ("pick", -1, SHUT), ("pick", -1, SHUT)), ("both", ("pick", 1, SHUT), ("pick", 1, SHUT))):
            self.assertNot(met_holds, Q, ("missed", S), tree)

    def test_each_word_has_its_own_leaves(self):
        self.assertNot(met_holds, Formula(2, ((),)), ("met", P), SHUT)
        self.assertNot(met_holds, Formula(2, ()), ("missed", P), DONE)
        self.assertNot(met_holds, Formula(2, ((1,), (-1,))), ("met", (("some", (1, 2)),)), SHUT)
        self.assertNot(met_holds, Q, ("met", P), ("both", ("pick", 2, SHUT), ("pick", 2, DONE)))
        self.assertNot(met_holds, Q, ("missed", S), ("both", ("pick", 1, SHUT), ("pick", -1, DONE)))

    def test_a_pick_of_another_variable(self):
        for literal in (1, -1, 0, 3, -3, "2", (2,), 10 ** 13):
            self.assertNot(met_holds, Q, ("met", P), ("both", ("pick", literal, DONE), ("pick", 2, DONE)))
            self.assertNot(met_holds, Q, ("met", P), ("both", ("pick", -2, DONE), ("pick", literal, DONE)))
        for literal in (2, -2, 0, 3, "1"):
            self.assertNot(met_holds, Q, ("missed", S), ("both", ("pick", literal, SHUT), ("pick", -1, SHUT)))
        formula = Formula(3, ((1, 2, 3),))
        prefix = (("some", (1, 2, 3)),)
        self.assertHolds(met_holds, formula, ("met", prefix), ("pick", 1, DONE))
        self.assertHolds(met_holds, formula, ("met", prefix), ("pick", -1, ("pick", 2, DONE)))
        for tree in (("pick", 2, DONE), ("pick", 3, DONE), ("pick", 1, ("pick", 3, DONE)), ("pick", 1, ("pick", 1, DONE))):
            self.assertNot(met_holds, formula, ("met", prefix), tree)

    def test_the_order_is_that_of_the_prefix(self):
        formula = Formula(3, ((3,),))
        self.assertHolds(met_holds, formula, ("met", (("some", (2, 3)), ("each", (1,)))), ("pick", 2, ("pick", 3, DONE)))
        self.assertHolds(met_holds, formula, ("met", (("some", (3,)), ("each", (1, 2)))), ("pick", 3, DONE))
        self.assertNot(met_holds, formula, ("met", (("some", (2, 3)), ("each", (1,)))), ("pick", 3, DONE))
        self.assertNot(met_holds, formula, ("met", (("each", (1,)), ("some", (2, 3)))), ("pick", 3, DONE))

    def test_branches_where_one_must_pick_and_picks_where_one_must_branch(self):
        free = Formula(2, ())
        self.assertHolds(met_holds, free, ("met", P), ("both", DONE, DONE))
        self.assertHolds(met_holds, free, ("met", S), ("pick", 2, DONE))
        self.assertNot(met_holds, free, ("met", P), ("pick", 1, DONE))
        self.assertNot(met_holds, free, ("met", S), ("both", DONE, DONE))
        shut = Formula(2, ((),))
        self.assertHolds(met_holds, shut, ("missed", P), ("pick", 1, SHUT))
        self.assertHolds(met_holds, shut, ("missed", S), ("both", SHUT, SHUT))
        self.assertNot(met_holds, shut, ("missed", S), ("pick", 2, SHUT))
        self.assertNot(met_holds, shut, ("missed", P), ("both", SHUT, SHUT))

    def test_no_variables_are_left(self):
        one = Formula(1, ())
        some, each = (("some", (1,)),), (("each", (1,)),)
        self.assertHolds(met_holds, one, ("met", some), ("pick", 1, DONE))
        self.assertNot(met_holds, one, ("met", some), ("pick", 1, ("pick", 1, DONE)))
        self.assertNot(met_holds, one, ("met", some), ("pick", 1, ("both", DONE, DONE)))
        self.assertNot(met_holds, one, ("met", each), ("both", DONE, ("both", DONE, DONE)))
        self.assertNot(met_holds, Formula(0, ()), ("met", ()), ("both", DONE, DONE))
        self.assertNot(met_holds, Formula(0, ((),)), ("missed", ()), ("pick", 1, SHUT))

    def test_refutations(self):
        formula = Formula(3, ((1, 2, 3), (1, 2, -3)))
        prefix = (("each", (2,)), ("some", (3,)), ("each", (1,)))
        # Under -2 and -1, put in literal order: the row is (-1, -2) though 2 was chosen first.
        tree = ("pick", -2, ("both", ("pick", -1, SHUT), ("pick", -1, SHUT)))
        self.assertHolds(met_holds, formula, ("missed", prefix), tree)
        for steps in ((), (("add", (1,)),), (("add", (1,)), ("add", (2,))), (("add", (4,)), ("add", ())), (("drop", (2,)),) + END):
            tree = ("pick", -2, ("both", ("pick", -1, ("shut", steps)), ("pick", -1, SHUT)))
            self.assertNot(met_holds, formula, ("missed", prefix), tree)
        for dropped in ((-1,), (-2,), (3,)):
            steps = (("add", ()), ("drop", dropped), ("add", ()))
            tree = ("pick", -2, ("both", ("pick", -1, ("shut", steps)), ("pick", -1, SHUT)))
            self.assertHolds(met_holds, formula, ("missed", prefix), tree)
            tree = ("pick", -2, ("both", ("pick", -1, SHUT), ("pick", -1, ("shut", steps))))
            self.assertIs(met_holds(formula, ("missed", prefix), tree), dropped != (3,))

    def test_papers_of_another_formula_prefix_or_word(self):
        self.assertNot(met_holds, Q, ("missed", P), MET)
        self.assertNot(met_holds, Q, ("met", S), MISSED)
        self.assertNot(met_holds, Q, ("met", S), MET)
        self.assertNot(met_holds, Q, ("missed", P), MISSED)
        self.assertNot(met_holds, Q.with_clause((1,)), ("met", P), MET)
        self.assertNot(met_holds, Q.without(0), ("missed", S), MISSED)
        self.assertNot(met_holds, Formula(3, Q.clauses), ("met", P), MET)
        self.assertHolds(met_holds, Formula(3, Q.clauses), ("met", P + (("each", (3,)),)), MET)

    def test_prefixes_that_are_none(self):
        for wrong in NO_PREFIXES:
            for formula in (Q, Formula(2, ()), Formula(2, ((),))):
                for paper in (MET, DONE, SHUT, MISSED, wrong):
                    self.assertNot(met_holds, formula, ("met", wrong), paper)
                    self.assertNot(met_holds, formula, ("missed", wrong), paper)

    def test_odd_claims_and_papers(self):
        self.assertLooksClosely(met_holds, Q, ("met", P), MET)
        self.assertLooksClosely(met_holds, Q, ("missed", S), MISSED)
        for odd in ODD_VALUES:
            self.assertNot(met_holds, Q, ("met", P), ("both", odd, MET[2]))
            self.assertNot(met_holds, Q, ("missed", S), ("both", ("pick", 1, odd), MISSED[2]))
            if odd != END:
                self.assertNot(met_holds, Q, ("missed", S), ("both", ("pick", 1, ("shut", odd)), MISSED[2]))
            if odd != ("free",) and repr(odd) != repr(DONE):
                self.assertNot(met_holds, Formula(2, ()), ("met", P), odd)
        for claim in (("met", P, ()), ("met",), (P, "met"), ("Met", P), ("open", P), ("met", P, P)):
            self.assertNot(met_holds, Q, claim, MET)
        for tree in (("done", ()), "done", (("done",),), ("both", MET[1]), ("both", MET[1], MET[2], DONE), (MET,), ("done", "done"),
                     ("split", 1, MET[1], MET[2]), ("Both",) + MET[1:], ("both", ("pick", -2), MET[2]),
                     ("both", ("pick", -2, DONE, DONE), MET[2]), ("both", ("pick", DONE, -2), MET[2]), (1, MET[1], MET[2])):
            self.assertNot(met_holds, Q, ("met", P), tree)
        self.assertNot(met_holds, Formula(2, ()), ("met", P), ("Done",))

    def test_random_trees_against_the_words_of_the_document(self):
        rng = random.Random(306)
        held = {"met": 0, "missed": 0}
        for formula in random_formulas(307, 1500, 4, 6):
            prefix = random_prefix(rng, formula.n)
            met = tried_met(formula, prefix)
            for word in ("met", "missed"):
                tree = random_tree(rng, formula, word, order_of(prefix))
                shows = slowly_shows(formula, word, order_of(prefix), (), tree)
                self.assertIs(met_holds(formula, (word, prefix), tree), shows, (formula.clauses, word, prefix, tree))
                if shows:
                    self.assertIs(met, word == "met")
                    held[word] += 1
        self.assertGreater(min(held.values()), 150)

    def test_no_tree_of_what_is_not_true(self):
        # All trees of two variables, for all pairs of clauses of these.
        leaves = [DONE, SHUT]
        ones = leaves + [("both", a, b) for a in leaves for b in leaves]
        ones += [("pick", x, a) for x in (1, -1, 2, -2) for a in leaves]
        trees = ones + [("both", a, b) for a in ones for b in ones] + [("pick", x, a) for x in (1, -1, 2, -2) for a in ones]
        clauses = [(), (1,), (-1,), (2,), (-2,), (1, 2), (1, -2), (-1, 2), (-1, -2)]
        for one, other in product(clauses, repeat=2):
            formula = Formula(2, (one, other))
            for prefix in (P, S, (("some", (1,)), ("each", (2,))), (("each", (1, 2)),), (("some", (1, 2)),)):
                met = tried_met(formula, prefix)
                for tree in trees:
                    self.assertFalse(met_holds(formula, ("missed" if met else "met", prefix), tree))


class TestWaysToMeet(Case):
    def test_ways(self):
        self.assertSame(ways_to_meet(Q, P), (((1,), (-2,)), ((-1,), (2,))))
        self.assertSame(ways_to_meet(formula=Q, prefix=(("each", (2,)), ("some", (1,)))), (((2,), (-1,)), ((-2,), (1,))))
        self.assertSame(ways_to_meet(Formula(2, ()), P), (((1,), (2,)), ((-1,), (2,))))
        self.assertSame(ways_to_meet(Formula(2, ((),)), P), (((1,), None), ((-1,), None)))
        self.assertSame(ways_to_meet(Formula(2, ((1, 2), (1, -2))), P), (((1,), (2,)), ((-1,), None)))
        formula = Formula(3, ((1, -2, -3), (-1, 2)))
        self.assertSame(ways_to_meet(formula, (("each", (1, 3)), ("some", (2,)))),
                        (((1, 3), (2,)), ((1, -3), (2,)), ((-1, 3), (-2,)), ((-1, -3), (2,))))

    def test_errors(self):
        for n, prefix in ((0, ()), (2, S), (2, (("each", (1, 2)),)), (2, (("some", (1, 2)),)),
                          (2, (("each", (1,)), ("each", (2,)))), (2, (("some", (1,)), ("some", (2,)))),
                          (3, (("each", (1,)), ("some", (2,)), ("each", (3,)))),
                          (3, (("each", (1,)), ("some", (2,)), ("some", (3,)))),
                          (3, (("each", (1,)), ("each", (2,)), ("some", (3,))))):
            self.assertRaisesWith(Undefined, {"what": "prefix"}, ways_to_meet, Formula(n, ()), prefix)
            self.assertRaisesWith(Undefined, {"what": "prefix"}, ways_to_meet, formula=Formula(n, ((),)), prefix=prefix)
        self.assertRaisesWith(InvalidPrefix, {"value": (("each", (1,)),)}, ways_to_meet, Q, (("each", (1,)),))
        self.assertRaisesWith(InvalidPrefix, {"value": (("some", (2, 1)),)}, ways_to_meet, Q, (("some", (2, 1)),))

    def test_random_formulas_against_all_choices(self):
        rng = random.Random(308)
        for formula in random_formulas(309, 600, 5, 10):
            if formula.n < 2:
                continue
            asked = tuple(sorted(rng.sample(range(1, formula.n + 1), rng.randint(1, formula.n - 1))))
            rest = tuple(v for v in range(1, formula.n + 1) if v not in asked)
            expected = []
            for row in product(*[(v, -v) for v in asked]):
                answers = [x for x in product(*[(v, -v) for v in rest])
                           if all(set(clause) & set(row + x) for clause in formula.clauses)]
                expected.append((row, answers[0] if answers else None))
            prefix = (("each", asked), ("some", rest))
            self.assertSame(ways_to_meet(formula, prefix), tuple(expected))
            self.assertIs(is_met(formula, prefix), all(answer is not None for _, answer in expected))


if __name__ == "__main__":
    unittest.main()
