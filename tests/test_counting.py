"""Points [18], [19] and [20]: counting, and counting trees."""

import random
import unittest

from clausehold.counting import (
    count, count_claim, count_holds, count_of, count_of_claim, count_of_holds, count_of_paper, count_paper,
)
from clausehold.errors import InvalidLiterals
from clausehold.formulas import Formula
from tests.helpers import (
    ODD_VALUES, Case, changed_anywhere, nested, parity_formula, random_clause, random_formulas, slowly_refutes,
    tried_models,
)

F = Formula(3, ((1, 2), (-1, 3), (-2, -3)))
G = Formula(1, ((1,), (-1,)))
SQUARE = Formula(2, ((1, 2), (1, -2), (-1, 2), (-1, -2)))
END = (("add", ()),)
S = ("shut", END)
FREE = ("free",)
TWO = Formula(3, ((1,), (2,)))
PARTS = ("parts", (("split", 1, FREE, S), ("split", 2, FREE, S)))
OF = ("split", 1, ("open", (1, -2, 3)), ("open", (-1, 2, -3)))
WRONG_VARIABLES = ((0,), (0, 1), (1, 1), (2, 1), (4,), (1, 4), (-1,), (1, -2), (True,), (1, True), (False,), (None,),
                   ("1",), ((1,),), ([1],), [0], [1, 1], [2, 1], [4], [True], [None], [[1]], None, True, 0, 1, "", "1",
                   {}, {1: 1}, F, (10 ** 13,), (1, 2, 3, 4), ((),), nested(30), nested(30, list), (1.0,))


def split_by(clauses, literal):
    return [tuple(x for x in clause if x != -literal) for clause in clauses if literal not in clause]


def slow_parts(clauses):
    """The groups of clauses, by trying which are joined with which."""
    group_of = list(range(len(clauses)))
    for _ in clauses:
        for i, one in enumerate(clauses):
            for j, other in enumerate(clauses):
                if {abs(x) for x in one} & {abs(x) for x in other}:
                    group_of[j] = group_of[i] = min(group_of[i], group_of[j])
    return [[clause for at, clause in zip(group_of, clauses) if at == first] for first in sorted(set(group_of))]


def slow_count(n, clauses, variables, tree):
    """What a counting tree in form counts, told as the document tells it, or None."""
    if tree[0] == "free":
        return None if clauses else 2 ** len(variables)
    if tree[0] == "shut":
        return 0 if slowly_refutes(Formula(n, clauses), tree[1]) else None
    if tree[0] == "split":
        v = tree[1]
        if v not in variables:
            return None
        rest = [x for x in variables if x != v]
        sides = [slow_count(n, split_by(clauses, x), rest, part) for x, part in ((v, tree[2]), (-v, tree[3]))]
        return None if None in sides else sum(sides)
    groups = slow_parts(clauses)
    if len(groups) < 2 or () in clauses or len(tree[1]) != len(groups):
        return None
    rest = [v for v in variables if not any(v in map(abs, clause) for clause in clauses)]
    out = 2 ** len(rest)
    for group, part in zip(groups, tree[1]):
        inside = [v for v in variables if any(v in map(abs, clause) for clause in group)]
        many = slow_count(n, group, inside, part)
        if many is None:
            return None
        out *= many
    return out


def slow_count_of(formula, variables, tree, above=()):
    """How many rows a tree in form of point [20] shows open, or None."""
    if tree[0] == "shut":
        return 0 if slowly_refutes(formula.under(above), tree[1]) else None
    if len(above) == len(variables):
        return 1 if tree[0] == "open" and tree[1] in tried_models(formula) and set(above) <= set(tree[1]) else None
    v = variables[len(above)]
    if tree[0] != "split" or tree[1] != v:
        return None
    sides = [slow_count_of(formula, variables, part, above + (x,)) for x, part in ((v, tree[2]), (-v, tree[3]))]
    return None if None in sides else sum(sides)


def parted_formulas(seed, many):
    """Random formulas over up to seven variables whose clauses fall into groups more often than not."""
    rng = random.Random(seed)
    for _ in range(many):
        n = rng.randint(2, 7)
        cut = rng.randint(1, n)
        clauses = []
        for _ in range(rng.randint(0, 7)):
            clause = random_clause(rng, n, 3)
            side = rng.random() < 0.5
            clauses.append(tuple(x for x in clause if (abs(x) <= cut) == side) or clause)
        yield Formula(n, clauses)


class TestCount(Case):
    def test_numbers(self):
        self.assertSame([count(F), count(Formula(3, ())), count(G), count(formula=TWO)], [2, 8, 0, 2])
        self.assertSame(count_claim(F), ("count", 2))
        self.assertSame(count_claim(formula=SQUARE), ("count", 0))

    def test_edges(self):
        for formula, many in ((Formula(0, ()), 1), (Formula(0, ((),)), 0), (Formula(5, ((),)), 0), (Formula(4, ()), 16),
                              (Formula(3, ((1,), (1,))), 4), (Formula(6, ((2, -5),)), 48), (Formula(10, ()), 1024),
                              (Formula(2, ((1, 2), ())), 0)):
            self.assertSame(count(formula), many)
            self.assertSame(count_claim(formula), ("count", many))
            self.assertHolds(count_holds, formula, ("count", many), count_paper(formula))

    def test_against_all_rows(self):
        shut = 0
        for formula in list(random_formulas(91, 700, 6, 14)) + list(parted_formulas(92, 500)):
            many = len(tried_models(formula))
            self.assertSame(count(formula), many)
            self.assertSame(count_claim(formula), ("count", many))
            paper = count_paper(formula)
            self.assertSame(count_paper(formula), paper)
            variables = tuple(range(1, formula.n + 1))
            self.assertEqual(slow_count(formula.n, formula.clauses, variables, paper), many)
            self.assertHolds(count_holds, formula, ("count", many), paper)
            for other in (many + 1, many - 1, 2 * many + 1, -1, -many - 1):
                self.assertNot(count_holds, formula, ("count", other), paper)
            shut += many == 0
        self.assertGreater(shut, 100)

    def test_many_variables(self):
        rng = random.Random(93)
        for most in (2, 3, 5, 10):
            formula = Formula(10, [random_clause(rng, 10, most) for _ in range(20 * most // 5 + 20)])
            self.assertSame(count(formula), len(tried_models(formula)))
            self.assertHolds(count_holds, formula, count_claim(formula), count_paper(formula))
        self.assertSame(count(parity_formula(7, (0,))), 64)

    def test_the_formula_stays_as_it_is(self):
        before = repr((F.n, F.clauses))
        count(F), count_claim(F), count_paper(F), count_of(F, [1]), count_of_claim(F, [1]), count_of_paper(F, [1])
        count_holds(F, ("count", 2), FREE), count_of_holds(F, ("count of", (1,), 2), OF)
        self.assertEqual(repr((F.n, F.clauses)), before)


class TestCountHolds(Case):
    def holds(self, formula, k, tree):
        return count_holds(formula, ("count", k), tree)

    def test_trees(self):
        self.assertIs(self.holds(Formula(2, ()), 4, FREE), True)
        self.assertIs(self.holds(G, 0, S), True)
        self.assertIs(self.holds(TWO, 2, PARTS), True)
        self.assertIs(count_holds(formula=TWO, claim=("count", 2), paper=PARTS), True)

    def test_free(self):
        self.assertIs(self.holds(Formula(0, ()), 1, FREE), True)
        for k in (0, 1, 2, 3, 5, 8, -1, -4):
            self.assertIs(self.holds(Formula(2, ()), k, FREE), False)
        self.assertIs(self.holds(Formula(2, ((1,),)), 4, FREE), False)
        self.assertIs(self.holds(Formula(1, ((1,),)), 2, FREE), False)
        self.assertIs(self.holds(Formula(0, ((),)), 1, FREE), False)
        self.assertIs(self.holds(Formula(2, ()), 4, ("free", ())), False)
        # A value is given to each of the variables that are left, none to those that are split.
        self.assertIs(self.holds(Formula(3, ()), 8, ("split", 2, FREE, ("split", 1, FREE, FREE))), True)

    def test_shut(self):
        self.assertIs(self.holds(Formula(0, ((),)), 0, S), True)
        self.assertIs(self.holds(SQUARE, 0, S), False)
        self.assertIs(self.holds(SQUARE, 0, ("shut", (("add", (1,)),) + END)), True)
        self.assertIs(self.holds(F, 0, S), False)
        self.assertIs(self.holds(F, 2, ("split", 1, S, S)), False)
        self.assertIs(self.holds(G, 0, ("shut", ())), False)
        self.assertIs(self.holds(G, 0, ("shut", END, END)), False)
        self.assertIs(self.holds(G, 0, ("shut",)), False)

    def test_an_open_leaf_called_shut(self):
        self.assertIs(self.holds(Formula(1, ()), 1, ("split", 1, FREE, S)), False)
        self.assertIs(self.holds(Formula(1, ()), 1, ("split", 1, S, FREE)), False)
        self.assertIs(self.holds(Formula(2, ()), 0, S), False)
        self.assertIs(self.holds(TWO, 0, ("parts", (("split", 1, FREE, S), ("split", 2, S, S)))), False)
        self.assertIs(self.holds(TWO, 0, ("parts", (("split", 1, S, S), ("split", 2, FREE, S)))), False)

    def test_a_refutation_has_the_clauses_of_its_leaf(self):
        formula = Formula(2, ((1, 2), (1, -2)))
        self.assertIs(self.holds(formula, 2, ("split", 1, FREE, S)), True)
        self.assertIs(self.holds(formula, 2, ("split", 1, FREE, ("shut", (("drop", (2,)),) + END))), False)
        self.assertIs(self.holds(formula, 2, ("split", 1, FREE, ("shut", (("drop", (1, 2)),) + END))), False)
        twice = Formula(2, ((1, 2), (1, -2), (2,)))
        self.assertIs(self.holds(twice, 1, ("split", 1, ("split", 2, FREE, S),
                                            ("shut", (("drop", (2,)), ("add", (1,)), ("drop", (1,))) + END))), True)
        # n is that of the formula, so that a step may name a variable that is split.
        self.assertIs(self.holds(formula, 2, ("split", 1, FREE, ("shut", (("add", (2,)), ("add", (1, 2))) + END))), True)
        self.assertIs(self.holds(formula, 2, ("split", 1, FREE, ("shut", (("add", (3,)),) + END))), False)

    def test_split(self):
        tree = ("split", 1, FREE, ("split", 2, FREE, S))
        formula = Formula(2, ((1, 2),))
        self.assertIs(self.holds(formula, 3, tree), True)
        self.assertIs(self.holds(formula, 2, tree), False)
        self.assertIs(self.holds(formula, 3, ("split", 1, ("split", 2, FREE, S), FREE)), False)
        self.assertIs(self.holds(formula, 3, ("split", 2, FREE, ("split", 1, FREE, S))), True)
        # Also where a row is free or shut, and for a variable of no clause.
        self.assertIs(self.holds(Formula(2, ()), 4, ("split", 2, FREE, FREE)), True)
        self.assertIs(self.holds(Formula(2, ((),)), 0, ("split", 2, S, S)), True)
        self.assertIs(self.holds(Formula(3, ((1, 2),)), 6, ("split", 3, tree, tree)), True)

    def test_a_variable_split_twice_or_none(self):
        self.assertIs(self.holds(Formula(2, ()), 4, ("split", 1, ("split", 1, FREE, FREE), FREE)), False)
        self.assertIs(self.holds(Formula(2, ()), 4, ("split", 1, FREE, ("split", 1, FREE, FREE))), False)
        self.assertIs(self.holds(Formula(1, ()), 2, ("split", 1, ("split", 1, FREE, S), FREE)), False)
        for v in (0, 3, -1, -2, 10 ** 12, "1", (1,), "", (), True, None, [1], 1.0):
            self.assertIs(self.holds(Formula(2, ()), 4, ("split", v, FREE, FREE)), False, v)
        self.assertIs(self.holds(Formula(0, ()), 1, ("split", 1, FREE, FREE)), False)
        self.assertIs(self.holds(Formula(0, ()), 2, ("split", 1, FREE, FREE)), False)

    def test_parts(self):
        formula = Formula(6, ((1, 2), (3,), (-2, 4), (-5,)))
        first = ("split", 2, ("split", 4, FREE, S), ("split", 1, FREE, S))
        three, five = ("split", 3, FREE, S), ("split", 5, S, FREE)
        self.assertIs(self.holds(formula, 8, ("parts", (first, three, five))), True)
        for trees in ((first, five, three), (three, first, five), (first, three), (first, three, five, FREE), (), first,
                      (first, three, three), (first, three, FREE), (first, three, five, five)):
            self.assertIs(self.holds(formula, 8, ("parts", trees)), False)
        for k in (4, 16, 0, 2, 1):
            self.assertIs(self.holds(formula, k, ("parts", (first, three, five))), False)

    def test_a_part_has_just_its_own_variables(self):
        formula = Formula(3, ((1,), (2,)))
        one, two = ("split", 1, FREE, S), ("split", 2, FREE, S)
        self.assertIs(self.holds(formula, 2, ("parts", (one, two))), True)
        self.assertIs(self.holds(formula, 2, ("parts", (("split", 3, one, one), two))), False)
        self.assertIs(self.holds(formula, 4, ("parts", (("split", 3, one, one), two))), False)
        self.assertIs(self.holds(formula, 1, ("parts", (one, two))), False)
        self.assertIs(self.holds(formula, 2, ("split", 3, ("parts", (one, two)), ("parts", (one, two)))), True)

    def test_parts_that_are_not_parts(self):
        tree = ("split", 1, FREE, ("split", 2, FREE, S))
        self.assertIs(self.holds(Formula(2, ((1, 2),)), 3, ("parts", (tree,))), False)
        self.assertIs(self.holds(Formula(2, ((1, 2), (1, 2))), 3, ("parts", (tree, tree))), False)
        self.assertIs(self.holds(Formula(2, ((1, 2), (1, 2))), 9, ("parts", (tree, tree))), False)
        self.assertIs(self.holds(Formula(2, ()), 4, ("parts", ())), False)
        self.assertIs(self.holds(Formula(2, ()), 4, ("parts", (FREE,))), False)
        self.assertIs(self.holds(Formula(2, ()), 4, ("parts", (FREE, FREE))), False)
        one = ("split", 1, FREE, S)
        self.assertIs(self.holds(Formula(1, ((1,), ())), 0, ("parts", (one, S))), False)
        self.assertIs(self.holds(Formula(1, ((), (1,))), 0, ("parts", (S, one))), False)
        self.assertIs(self.holds(Formula(1, ((), (1,))), 0, ("parts", (S, S))), False)
        self.assertIs(self.holds(Formula(2, ((1,), (), (2,))), 0, ("parts", (one, ("split", 2, FREE, S)))), False)

    def test_groups_as_small_as_can_be(self):
        formula = Formula(4, ((1, 2), (3,), (2, 4), (1, 4)))
        group = ("split", 1, ("split", 2, FREE, ("split", 4, FREE, S)), ("split", 2, ("split", 4, FREE, S), S))
        self.assertEqual(slow_count(4, list(formula.clauses[:1] + formula.clauses[2:]), [1, 2, 4], group), 4)
        self.assertIs(self.holds(formula, 4, ("parts", (group, ("split", 3, FREE, S)))), True)
        # Three groups, none of which may be put together with another.
        formula = Formula(3, ((1,), (2,), (3,)))
        one, two, three = [("split", v, FREE, S) for v in (1, 2, 3)]
        self.assertIs(self.holds(formula, 1, ("parts", (one, two, three))), True)
        self.assertIs(self.holds(formula, 1, ("parts", (one, ("parts", (two, three))))), False)
        self.assertIs(self.holds(formula, 1, ("parts", (one, ("split", 2, three, S)))), False)
        # The last clause joins the first two groups.
        formula = Formula(3, ((1,), (2,), (3,), (1, 2)))
        tree = ("split", 1, ("split", 2, FREE, S), S)
        self.assertIs(self.holds(formula, 1, ("parts", (tree, three))), True)
        self.assertIs(self.holds(formula, 1, ("parts", (one, two, three))), False)
        # The contrary of a literal has the same variable.
        self.assertIs(self.holds(G, 0, ("parts", (one, ("split", 1, S, FREE)))), False)

    def test_a_clause_by_a_literal(self):
        formula = Formula(3, ((-1, 2), (1, 2, 3), (-1, -3)))
        tree = ("split", 1, ("parts", (("split", 2, FREE, S), ("split", 3, S, FREE))),
                ("split", 2, FREE, ("split", 3, FREE, S)))
        self.assertIs(self.holds(formula, 4, tree), True)
        self.assertIs(self.holds(formula, 4, ("split", 1, tree[3], tree[2])), False)
        self.assertIs(self.holds(formula, 3, tree), False)

    def test_random_trees_against_the_words_of_the_document(self):
        rng = random.Random(94)
        held = 0
        for formula in list(parted_formulas(95, 500)) + list(random_formulas(96, 300, 3, 5)):
            variables = list(range(1, formula.n + 1))
            tree = self.random_tree(rng, formula.clauses, variables, 4)
            k = slow_count(formula.n, formula.clauses, variables, tree)
            many = len(tried_models(formula))
            self.assertIs(self.holds(formula, many, tree), k == many)
            self.assertTrue(k is None or k == many)
            held += k is not None
        self.assertGreater(held, 150)

    def random_tree(self, rng, clauses, variables, deep):
        if (not clauses and rng.random() < 0.8) or not variables:
            return FREE if rng.random() < 0.97 and not clauses else S
        if rng.random() < 0.1 or () in clauses:
            return S
        groups = slow_parts(clauses)
        if len(groups) > 1 and rng.random() < 0.7:
            trees = [self.random_tree(rng, group, [v for v in variables if any(v in map(abs, c) for c in group)], deep)
                     for group in groups]
            if rng.random() < 0.05:
                trees.reverse()
            return ("parts", tuple(trees))
        v = rng.choice(variables)
        rest = [x for x in variables if x != v]
        yes = self.random_tree(rng, split_by(clauses, v), rest, deep - 1)
        return ("split", v, yes, self.random_tree(rng, split_by(clauses, -v), rest, deep - 1))

    def test_a_paper_of_another_formula_or_number(self):
        self.assertIs(self.holds(Formula(3, ((1,), (-2,))), 2, PARTS), False)
        self.assertIs(self.holds(Formula(3, ((2,), (1,))), 2, PARTS), False)
        self.assertIs(self.holds(Formula(4, TWO.clauses), 2, PARTS), False)
        self.assertIs(self.holds(Formula(4, TWO.clauses), 4, PARTS), True)
        self.assertIs(self.holds(Formula(2, TWO.clauses), 1, PARTS), True)
        for k in (0, 1, 3, 4, -2):
            self.assertIs(self.holds(TWO, k, PARTS), False)

    def test_no_tree_counts_to_what_is_no_number(self):
        for k in (-1, None, True, False, "", "2", (), (2,), [2], 2.0, ("count", 2), FREE):
            for tree in (PARTS, FREE, ("free", 1), (), "x", S, ("split", 5, FREE, FREE)):
                self.assertIs(self.holds(TWO, k, tree), False)

    def test_odd_claims_and_papers(self):
        self.assertLooksClosely(count_holds, TWO, ("count", 2), PARTS)
        self.assertLooksClosely(count_holds, G, ("count", 0), ("split", 1, S, S))
        self.assertLooksClosely(count_holds, SQUARE, ("count", 0), ("shut", (("add", (1,)),) + END))
        for claim in (("count",), ("count", 2, 2), ("count of", 2), ("Count", 2), (2, "count"), ("count of", (), 2), 2):
            self.assertNot(count_holds, TWO, claim, PARTS)
        for tree in (("split", 1, FREE), ("split", 1, FREE, S, S), ("parts",), ("free", "free"), "free", ("split",), (),
                     ("parts", (FREE,), (FREE,)), ((),), (FREE,), ("cores", ())):
            self.assertNot(count_holds, Formula(1, ()), ("count", 2), tree)
            self.assertNot(count_holds, Formula(2, ()), ("count", 4), ("split", 1, tree, FREE))
            self.assertNot(count_holds, Formula(2, ()), ("count", 4), ("split", 1, FREE, tree))
        for odd in ODD_VALUES:
            for other in changed_anywhere(("split", 1, ("free",), S), odd):
                held = count_holds(Formula(1, ((1,),)), ("count", 1), other)
                self.assertIs(held, repr(other) == repr(("split", 1, ("free",), S)), other)

    def test_long_papers(self):
        tree = FREE
        for v in range(10, 0, -1):
            tree = ("split", v, tree, tree)
        self.assertIs(self.holds(Formula(10, ()), 1024, tree), True)
        self.assertIs(self.holds(Formula(11, ()), 2048, tree), True)
        self.assertIs(self.holds(Formula(9, ()), 512, tree), False)


class TestCountOf(Case):
    def test_numbers(self):
        self.assertSame([count_of(F, (1, 2)), count_of(F, ()), count_of(G, ()), count_of(F, (1, 2, 3))], [2, 1, 0, 2])
        self.assertSame(count_of(formula=Formula(4, ((1, 2),)), variables=[1, 2]), 3)
        self.assertSame(count_of(Formula(4, ((1, 2),)), [1, 3]), 4)

    def test_lists_and_tuples(self):
        variables = [1, 3]
        claim = count_of_claim(F, variables)
        paper = count_of_paper(F, variables)
        self.assertSame(claim, ("count of", (1, 3), 2))
        self.assertSame(claim, count_of_claim(F, (1, 3)))
        self.assertSame(paper, count_of_paper(F, (1, 3)))
        self.assertSame(variables, [1, 3])
        variables.append(9)
        self.assertSame(claim, ("count of", (1, 3), 2))
        self.assertHolds(count_of_holds, F, claim, paper)
        self.assertSame(count_of_claim(F, []), ("count of", (), 1))

    def test_edges(self):
        for formula, variables, many in ((Formula(0, ()), (), 1), (Formula(0, ((),)), (), 0), (G, (1,), 0),
                                         (Formula(3, ()), (), 1), (Formula(3, ()), (2,), 2), (SQUARE, (1, 2), 0),
                                         (Formula(3, ((1,), (1,))), (1, 3), 2), (Formula(10, ()), range(1, 11), 1024)):
            variables = tuple(variables)
            self.assertSame(count_of(formula, variables), many)
            self.assertHolds(count_of_holds, formula, ("count of", variables, many), count_of_paper(formula, variables))

    def test_wrong_variables(self):
        for wrong in WRONG_VARIABLES:
            for call in (count_of, count_of_claim, count_of_paper):
                self.assertRaisesWith(InvalidLiterals, {"value": wrong}, call, F, wrong)
        self.assertRaisesWith(InvalidLiterals, {"value": (2,)}, count_of, G, (2,))
        self.assertRaisesWith(InvalidLiterals, {"value": [1]}, count_of_paper, Formula(0, ((),)), [1])

    def test_against_all_rows(self):
        rng = random.Random(97)
        for formula in random_formulas(98, 700, 5, 12):
            variables = tuple(v for v in range(1, formula.n + 1) if rng.random() < 0.5)
            found = tried_models(formula)
            many = len({tuple(model[v - 1] for v in variables) for model in found})
            self.assertSame(count_of(formula, variables), many)
            claim = ("count of", variables, many)
            self.assertSame(count_of_claim(formula, list(variables)), claim)
            paper = count_of_paper(formula, variables)
            self.assertSame(count_of_paper(formula, variables), paper)
            self.assertEqual(slow_count_of(formula, variables, paper), many)
            self.assertHolds(count_of_holds, formula, claim, paper)
            for other in (many + 1, many - 1, -1, -many - 1):
                self.assertNot(count_of_holds, formula, ("count of", variables, other), paper)
            for other in (tuple(range(1, formula.n + 1)), variables[1:], variables[:-1]):
                held = slow_count_of(formula, other, paper) == many
                self.assertIs(count_of_holds(formula, ("count of", other, many), paper), held)


class TestCountOfHolds(Case):
    def holds(self, formula, variables, k, tree):
        return count_of_holds(formula, ("count of", variables, k), tree)

    def test_trees(self):
        self.assertIs(self.holds(F, (1,), 2, OF), True)
        self.assertIs(count_of_holds(formula=F, claim=("count of", (1,), 2), paper=OF), True)
        self.assertIs(self.holds(F, (), 1, ("open", (1, -2, 3))), True)
        self.assertIs(self.holds(G, (), 0, S), True)
        self.assertIs(self.holds(G, (1,), 0, S), True)
        self.assertIs(self.holds(G, (1,), 0, ("split", 1, S, S)), True)
        self.assertIs(self.holds(F, (1, 2), 2, ("split", 1, ("split", 2, S, OF[2]), ("split", 2, OF[3], S))), True)

    def test_models_that_do_not_agree(self):
        yes, no = OF[2], OF[3]
        for tree in (("split", 1, no, yes), ("split", 1, yes, yes), ("split", 1, no, no), ("split", 1, yes, ("open", ())),
                     ("split", 1, yes, ("open", (-1, -2, -3))), ("split", 1, yes, ("open", (-1, 2)))):
            self.assertIs(self.holds(F, (1,), 2, tree), False)
        self.assertIs(self.holds(F, (), 1, ("open", (1, 2, 3))), False)

    def test_an_open_leaf_called_shut(self):
        for tree, k in ((("split", 1, S, OF[3]), 1), (("split", 1, OF[2], S), 1), (S, 0), (("split", 1, S, S), 0)):
            self.assertIs(self.holds(F, (1,), k, tree), False)

    def test_open_where_not_all_are_split(self):
        self.assertIs(self.holds(F, (1,), 1, OF[2]), False)
        self.assertIs(self.holds(F, (1, 2), 2, OF), False)
        self.assertIs(self.holds(F, (1, 3), 2, OF), False)

    def test_split_out_of_order_or_too_often(self):
        square = Formula(2, ())
        leaf = {(a, b): ("open", (a, b)) for a in (1, -1) for b in (2, -2)}
        one = [("split", 2, leaf[a, 2], leaf[a, -2]) for a in (1, -1)]
        two = [("split", 1, leaf[1, b], leaf[-1, b]) for b in (2, -2)]
        self.assertIs(self.holds(square, (1, 2), 4, ("split", 1, one[0], one[1])), True)
        self.assertIs(self.holds(square, (1, 2), 4, ("split", 2, two[0], two[1])), False)
        self.assertIs(self.holds(square, (1,), 2, ("split", 2, leaf[1, 2], leaf[1, -2])), False)
        self.assertIs(self.holds(square, (2,), 2, ("split", 2, leaf[1, 2], leaf[1, -2])), True)
        self.assertIs(self.holds(square, (1,), 4, ("split", 1, one[0], one[1])), False)
        self.assertIs(self.holds(square, (1, 2), 2, ("split", 1, ("split", 1, leaf[1, 2], S), one[1])), False)
        self.assertIs(self.holds(square, (), 4, ("split", 1, one[0], one[1])), False)
        for v in (0, 3, -1, "1", (1,), (), True):
            self.assertIs(self.holds(square, (1, 2), 4, ("split", v, one[0], one[1])), False)

    def test_a_refutation_is_of_the_literals_above(self):
        formula = Formula(2, ((1, 2), (1, -2)))
        yes = ("open", (1, 2))
        self.assertIs(self.holds(formula, (1,), 1, ("split", 1, yes, S)), True)
        self.assertIs(self.holds(formula, (1,), 1, ("split", 1, yes, ("shut", (("add", (1,)), ("drop", (1, 2))) + END))),
                      True)
        self.assertIs(self.holds(formula, (1,), 1, ("split", 1, yes, ("shut", (("drop", (-1,)), ) + END))), False)
        twice = formula.with_clause((-1,))
        self.assertIs(self.holds(twice, (1,), 0, ("split", 1, S, ("shut", (("drop", (-1,)),) + END))), True)
        self.assertIs(self.holds(twice, (1,), 0, ("split", 1, ("shut", (("drop", (-1,)),) + END), S)), False)
        self.assertIs(self.holds(formula, (1,), 1, ("split", 1, yes, ("shut", ()))), False)

    def test_variables_in_no_form(self):
        for wrong in WRONG_VARIABLES + ([1], [], [1, 2]):
            for tree in (OF, OF[2], S):
                for k in (0, 1, 2):
                    self.assertIs(self.holds(F, wrong, k, tree), False)

    def test_papers_of_another_formula_or_number(self):
        for k in (0, 1, 3, 4, -2, True, None, "2", (2,), (), [2]):
            self.assertIs(self.holds(F, (1,), k, OF), False)
        self.assertIs(self.holds(F.without(0), (1,), 2, OF), True)
        self.assertIs(self.holds(F.with_clause((1,)), (1,), 2, OF), False)
        self.assertIs(self.holds(Formula(4, F.clauses), (1,), 2, OF), False)
        for k in (-1, None):
            self.assertIs(self.holds(F, (1,), k, FREE), False)
        self.assertIs(count_holds(F, ("count of", (1,), 2), OF), False)
        self.assertIs(count_of_holds(TWO, ("count", 2), PARTS), False)

    def test_odd_claims_and_papers(self):
        self.assertLooksClosely(count_of_holds, F, ("count of", (1,), 2), OF)
        self.assertLooksClosely(count_of_holds, G, ("count of", (1,), 0), ("split", 1, S, S))
        self.assertLooksClosely(count_of_holds, F, ("count of", (), 1), OF[2])
        for claim in (("count of", (1,)), ("count of", (1,), 2, 2), ("count", (1,), 2), ("count", 2), ("count of", 2),
                      ((1,), 2, "count of"), ("count of", 2, (1,)), ("count of", 1, 2)):
            self.assertNot(count_of_holds, F, claim, OF)
        for tree in (("split", 1, OF[2]), OF + (S,), ("split", 1, OF[2], ()), ("open",), ("open", (1, -2, 3), ()), FREE,
                     ("split", 1, OF[2], FREE), ("parts", (OF[2], OF[3])), (1, OF[2], OF[3]), "open"):
            self.assertNot(count_of_holds, F, ("count of", (1,), 2), tree)


if __name__ == "__main__":
    unittest.main()
