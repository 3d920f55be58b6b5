"""Points [31] and [32]: turnings, and formulas broken by them."""

import random
import unittest
from itertools import permutations, product

from clausehold.errors import InvalidLiterals, InvalidNumber, Undefined
from clausehold.forcing import forced
from clausehold.formulas import Formula
from clausehold.models import first_model, is_model
from clausehold.solving import is_open, open_claim, open_holds, open_paper
from clausehold.turnings import (
    broken, broken_claim, broken_holds, broken_paper, is_turning, keeps, smaller_first, turned, turnings,
)
from tests.helpers import (
    ODD_VALUES, Case, broken_formula, first_clauses, nested, random_clause, random_formulas, random_row,
    slowly_refutes, tried_models,
)

Q = Formula(2, ((1, 2), (-1, -2)))
G = Formula(2, ((1, 2), (-1, 2), (1, -2), (-1, -2)))
END = (("add", ()),)
CLAIM = ("broken", ((2, 1),), "open")
MODEL = (1, -2, -3)
# No turnings of any number of variables.
NO_TURNINGS = (
    None, 0, 1, True, "", "12", [], [1], [1, 2], (0,), (2,), (-2,), (1, 1), (1, -1), (1, 3), (1, 0), (2, 2), (-2, -2), (True,),
    (True, 2), (1, None), (1, "2"), ((1,), 2), (1, [2]), (1, (2,)), Q, (Q,), (1, 2, 4), (1, 2, -2), (2, 3), (10 ** 13,), (False,),
    nested(30), nested(30, list), ((),), (1, 2, 3, 3), ("1",),
)


def tried_turnings(n):
    rows = [tuple(x * s for x, s in zip(row, signs)) for row in permutations(range(1, n + 1))
            for signs in product((1, -1), repeat=n)]
    return sorted(rows)


def slowly_turned(turning, clause):
    return tuple(sorted([turning[x - 1] if x > 0 else -turning[-x - 1] for x in clause], key=abs))


def slowly_keeps(formula, turning):
    left = list(formula.clauses)
    for clause in formula.clauses:
        image = slowly_turned(turning, clause)
        if image not in left:
            return False
        left.remove(image)
    return True


def kept_formulas(seed, many, most_n=4):
    """Formulas that some drawn turnings keep, and those turnings."""
    rng = random.Random(seed)
    for _ in range(many):
        n = rng.randint(0, most_n)
        every = tried_turnings(n)
        turning = rng.choice(every)
        clauses = []
        for _ in range(rng.randint(0, 3)):
            clause = random_clause(rng, n, 3)
            orbit = [clause]
            while slowly_turned(turning, orbit[-1]) != clause:
                orbit.append(slowly_turned(turning, orbit[-1]))
            clauses += orbit
        rng.shuffle(clauses)
        formula = Formula(n, clauses)
        keeping = [row for row in every if slowly_keeps(formula, row)]
        yield formula, tuple(rng.choice(keeping) for _ in range(rng.randint(0, 3)))


class TestIsTurning(Case):
    def test_turnings(self):
        self.assertSame([is_turning((2, 1), 2), is_turning((1, 1), 2), is_turning(value=(-2, 1), n=2)], [True, False, True])
        for n in range(4):
            rows = product(range(-n - 1, n + 2), repeat=n)
            self.assertEqual([row for row in rows if is_turning(row, n)], tried_turnings(n))

    def test_none_one_and_many(self):
        self.assertSame([is_turning((), 0), is_turning((1,), 1), is_turning((-1,), 1)], [True, True, True])
        self.assertSame([is_turning((), 1), is_turning((1,), 0), is_turning((2,), 1)], [False, False, False])
        self.assertIs(is_turning(tuple(range(-40, 0)), 40), True)

    def test_too_short_or_too_long(self):
        for n in (0, 1, 3, 10 ** 12):
            self.assertIs(is_turning((2, 1), n), False)
        self.assertIs(is_turning((1, 2), 3), False)
        self.assertIs(is_turning((1, 2, 3), 2), False)

    def test_any_value(self):
        for wrong in NO_TURNINGS:
            for n in (0, 1, 2, 3, 4):
                self.assertIs(is_turning(wrong, n), False)
        for odd in ODD_VALUES:
            self.assertIs(is_turning(odd, 3), False)


class TestTurned(Case):
    def test_literals(self):
        self.assertSame([turned((-2, 1), (1, 2)), turned(turning=(-2, 1), literals=(1,))], [(1, -2), (-2,)])
        self.assertSame([turned((-2, 1), (-1,)), turned((-2, 1), (-1, 2)), turned((), ()), turned((2, 1), ())],
                        [(2,), (1, 2), (), ()])
        self.assertSame([turned((-1,), (1,)), turned((-1,), (-1,)), turned((3, 1, 2), (1, -2, 3))],
                        [(-1,), (1,), (-1, 2, 3)])

    def test_all_of_three_variables(self):
        rng = random.Random(401)
        for turning in tried_turnings(3):
            row = random_row(rng, 3)
            self.assertSame(turned(turning, row), slowly_turned(turning, row))
            self.assertSame(turned((1, 2, 3), row), row)

    def test_errors(self):
        for wrong in NO_TURNINGS:
            for literals in ((), (1,), None, (2, 1)):
                self.assertRaisesWith(InvalidLiterals, {"value": wrong}, turned, wrong, literals)
        for wrong in (None, 1, True, "", [], [1], (2, 1), (1, 1), (1, -1), (3,), (-3,), (0,), (True,), ("1",), ((1,),), Q):
            self.assertRaisesWith(InvalidLiterals, {"value": wrong}, turned, (2, 1), wrong)
            self.assertRaisesWith(InvalidLiterals, {"value": wrong}, turned, turning=(1, 2), literals=wrong)
        self.assertRaisesWith(InvalidLiterals, {"value": (1,)}, turned, (), (1,))


class TestKeeps(Case):
    def test_whether(self):
        self.assertSame([keeps(Q, (2, 1)), keeps(Q, (1, -2)), keeps(formula=Q, turning=(-1, -2))], [True, False, True])
        self.assertSame([keeps(Formula(0, ()), ()), keeps(Formula(0, ((),)), ()), keeps(Formula(1, ()), (-1,))], [True] * 3)
        self.assertSame([keeps(Formula(1, ((1,),)), (-1,)), keeps(Formula(1, ((1,), (-1,))), (-1,))], [False, True])

    def test_turnings_that_move_nothing(self):
        for formula in random_formulas(402, 60):
            self.assertIs(keeps(formula, tuple(range(1, formula.n + 1))), True)

    def test_clauses_that_come_twice(self):
        self.assertIs(keeps(Formula(2, ((1,), (2,), (2,))), (2, 1)), False)
        self.assertIs(keeps(Formula(2, ((1,), (2,), (2,), (1,))), (2, 1)), True)
        self.assertIs(keeps(Formula(2, ((1,), (1,), (2,))), (2, 1)), False)
        self.assertIs(keeps(Formula(2, ((1,), (1,))), (1, -2)), True)

    def test_errors(self):
        for wrong in NO_TURNINGS + ((), (1,), (1, 2, 3)):
            self.assertRaisesWith(InvalidLiterals, {"value": wrong}, keeps, Q, wrong)
        for odd in ODD_VALUES:
            self.assertRaisesWith(InvalidLiterals, {"value": odd}, keeps, formula=Formula(9, ()), turning=odd)

    def test_random_formulas(self):
        kept = 0
        for formula, _ in kept_formulas(403, 80):
            for turning in tried_turnings(formula.n):
                keeping = slowly_keeps(formula, turning)
                self.assertIs(keeps(formula, turning), keeping)
                kept += keeping and turning != tuple(range(1, formula.n + 1))
        self.assertGreater(kept, 200)


class TestTurnings(Case):
    def test_all(self):
        self.assertSame(turnings(Q), ((-2, -1), (-1, -2), (1, 2), (2, 1)))
        self.assertSame(turnings(formula=Formula(1, ())), ((-1,), (1,)))
        self.assertSame(turnings(Formula(1, ((1,),))), ((1,),))

    def test_edges(self):
        self.assertSame([turnings(Formula(0, ())), turnings(Formula(0, ((), ())))], [((),), ((),)])
        self.assertSame(turnings(Formula(2, ((),))), tuple(tried_turnings(2)))
        self.assertSame(turnings(Formula(4, ())), tuple(tried_turnings(4)))
        self.assertEqual(len(turnings(Formula(4, ((1, 2, 3, 4),)))), 24)

    def test_size(self):
        for n in (5, 6, 11, 10 ** 12):
            self.assertRaisesWith(Undefined, {"what": "size"}, turnings, Formula(n, ()))
            self.assertRaisesWith(Undefined, {"what": "size"}, turnings, formula=Formula(n, ((), (1,))))

    def test_random_formulas_against_all_rows(self):
        for formula, _ in kept_formulas(404, 60):
            expected = tuple(row for row in tried_turnings(formula.n) if slowly_keeps(formula, row))
            self.assertSame(turnings(formula), expected)


class TestSmallerFirst(Case):
    def test_clauses(self):
        self.assertSame(smaller_first((2, 1), 3), (((1, -2), (-1, -2, 3), (1, 2, 3), (-1, 2, -3)), 4))
        self.assertSame(smaller_first(turning=(2, 1), fresh=9), (((1, -2), (-1, -2, 9), (1, 2, 9), (-1, 2, -9)), 10))

    def test_none_and_one(self):
        self.assertSame([smaller_first((), 1), smaller_first((), 70)], [((), 1), ((), 70)])
        self.assertSame([smaller_first((1,), 2), smaller_first((-1,), 2), smaller_first((-1,), 5)],
                        [((), 2), (((1,),), 2), (((1,),), 5)])

    def test_a_turning_that_moves_nothing(self):
        # v or -v stands in the first of each, so only those for being alike are left, each literal once.
        self.assertSame(smaller_first((1, 2, 3), 4), (((-1, 4), (1, 4), (-2, -4, 5), (2, -4, 5)), 6))
        # And by which all is turned round: these are left out but for the last.
        self.assertSame(smaller_first((-1, -2, -3), 4), (((1,), (2, -4), (3, -5)), 6))

    def test_against_the_words_of_the_document(self):
        for n in range(5):
            for turning in tried_turnings(n):
                for fresh in (n + 1, n + 2, 50, 10 ** 12):
                    clauses, behind = first_clauses(turning, fresh)
                    self.assertSame(smaller_first(turning, fresh), (tuple(clauses), behind))

    def test_they_say_that_a_row_is_not_after_the_turned_one(self):
        for n in range(4):
            for turning in tried_turnings(n):
                clauses, behind = smaller_first(turning, n + 1)
                models = tried_models(Formula(behind - 1, clauses))
                fitting = {model[:n] for model in models}
                for row in product(*[(v, -v) for v in range(1, n + 1)]):
                    values = [int(x > 0) for x in row]
                    images = [int(turning[v] in row) for v in range(n)]
                    self.assertEqual(row in fitting, values >= images, (turning, row))

    def test_errors(self):
        for wrong in NO_TURNINGS:
            for fresh in (9, None, 0):
                self.assertRaisesWith(InvalidLiterals, {"value": wrong}, smaller_first, wrong, fresh)
        for wrong in (None, True, False, 0, 1, 2, -3, "3", (), (3,), [3], Q, nested(30)):
            self.assertRaisesWith(InvalidNumber, {"value": wrong}, smaller_first, (2, 1), wrong)
            self.assertRaisesWith(InvalidNumber, {"value": wrong}, smaller_first, turning=(1, -2), fresh=wrong)
        self.assertRaisesWith(InvalidNumber, {"value": 0}, smaller_first, (), 0)
        self.assertRaisesWith(InvalidNumber, {"value": True}, smaller_first, (), True)
        self.assertRaisesWith(InvalidNumber, {"value": 1}, smaller_first, (1,), 1)


class TestBroken(Case):
    def test_a_formula(self):
        formula = broken(Q, ((2, 1),))
        self.assertIs(formula.__class__, Formula)
        self.assertSame((formula.n, formula.clauses), (3, Q.clauses + smaller_first((2, 1), 3)[0]))
        twice = broken(formula=Q, rows=[(2, 1), (-1, -2)])
        self.assertSame((twice.n, twice.clauses), (4, formula.clauses + smaller_first((-1, -2), 4)[0]))

    def test_no_rows(self):
        for rows in ((), []):
            self.assertEqual(broken(Q, rows), Q)
            self.assertSame(broken_claim(Q, rows), ("broken", (), "open"))
            self.assertSame(broken_paper(Q, rows), (1, -2))
        self.assertHolds(broken_holds, Q, ("broken", (), "open"), (-1, 2))
        self.assertHolds(broken_holds, G, ("broken", (), "shut"), (("add", (1,)), ("add", ())))

    def test_the_same_turning_twice(self):
        formula = broken(Q, ((2, 1), (2, 1)))
        self.assertSame((formula.n, formula.clauses),
                        (4, Q.clauses + smaller_first((2, 1), 3)[0] + smaller_first((2, 1), 4)[0]))

    def test_edges(self):
        for clauses in ((), ((),)):
            for many in (0, 1, 3):
                formula = broken(Formula(0, clauses), ((),) * many)
                self.assertSame((formula.n, formula.clauses), (0, clauses))
        formula = broken(Formula(1, ()), ((-1,), (1,), (-1,)))
        self.assertSame((formula.n, formula.clauses), (1, ((1,), (1,))))

    def test_errors(self):
        for wrong in NO_TURNINGS + ((), (1,), (1, 2, 3), (1, -2), (-1, 2), (2, -1)):
            for rows in ((wrong,), [wrong], ((2, 1), wrong), ((2, 1), wrong, (1, -2)), [wrong, None], ((2, 1),) * 3 + (wrong,)):
                for call in (broken, broken_claim, broken_paper):
                    self.assertRaisesWith(InvalidLiterals, {"value": wrong}, call, Q, rows)
        self.assertRaisesWith(InvalidLiterals, {"value": (1,)}, broken, formula=Formula(0, ()), rows=[(), (1,)])

    def test_a_list_stays_and_is_not_kept(self):
        rows = [(2, 1)]
        formula = broken(Q, rows)
        claim = broken_claim(Q, rows)
        broken_paper(Q, rows)
        self.assertEqual(rows, [(2, 1)])
        rows.append((1, 2))
        self.assertSame((formula.n, claim), (3, CLAIM))

    def test_random_formulas_against_all_rows(self):
        answers = {"open": 0, "shut": 0}
        for formula, rows in kept_formulas(405, 500):
            wanted = broken_formula(formula, rows)
            have = broken(formula, rows)
            self.assertSame((have.n, have.clauses), (wanted.n, wanted.clauses))
            word = "open" if tried_models(formula) else "shut"
            self.assertSame(broken_claim(formula, rows), ("broken", rows, word))
            self.assertSame(broken_claim(formula, list(rows)), ("broken", rows, word))
            paper = broken_paper(formula, rows)
            self.assertSame(broken_paper(formula, list(rows)), paper)
            if have.n <= 9:
                self.assertEqual(bool(tried_models(have)), word == "open")
            self.assertEqual(is_model(have, paper), word == "open")
            self.assertTrue(word == "open" or slowly_refutes(have, paper))
            self.assertHolds(broken_holds, formula, ("broken", rows, word), paper)
            self.assertNot(broken_holds, formula, ("broken", rows, "shut" if word == "open" else "open"), paper)
            answers[word] += len(rows) > 0
        self.assertGreater(min(answers.values()), 60)

    def test_as_many_variables_as_there_may_be(self):
        # No five things have places of their own in ten, two by two: turned by exchanging things or places.
        def at(thing, place):
            return 2 * thing + place + 1
        clauses = [(at(thing, 0), at(thing, 1)) for thing in range(5)]
        clauses += [(-at(a, place), -at(b, place)) for place in (0, 1) for a in range(5) for b in range(a + 1, 5)]
        formula = Formula(10, clauses)
        rows = ((3, 4, 1, 2, 5, 6, 7, 8, 9, 10), (2, 1, 4, 3, 6, 5, 8, 7, 10, 9), (3, 4, 5, 6, 7, 8, 9, 10, 1, 2))
        self.assertSame(broken_claim(formula, rows), ("broken", rows, "shut"))
        self.assertHolds(broken_holds, formula, ("broken", rows, "shut"), broken_paper(formula, rows))
        free = Formula(10, clauses[5:])
        claim = broken_claim(free, rows)
        self.assertSame(claim, ("broken", rows, "open"))
        paper = broken_paper(free, rows)
        self.assertHolds(broken_holds, free, claim, paper)
        whole = broken(free, rows)
        self.assertEqual(whole.n, 37)
        self.assertIs(is_open(whole), True)
        self.assertIs(is_model(whole, first_model(whole)), True)
        self.assertIsNone(forced(broken(formula, rows), (1,)) if not is_open(formula.under((1,))) else None)
        self.assertIs(open_holds(whole, open_claim(whole, (1, 2)), open_paper(whole, (1, 2))), True)

    def test_the_formula_stays_as_it_is(self):
        before = repr((Q.n, Q.clauses))
        broken(Q, ((2, 1),)), broken_claim(Q, ((2, 1),)), broken_paper(Q, ((2, 1),)), turnings(Q), keeps(Q, (2, 1))
        broken_holds(Q, CLAIM, MODEL)
        self.assertEqual(repr((Q.n, Q.clauses)), before)


class TestBrokenHolds(Case):
    def test_papers(self):
        self.assertHolds(broken_holds, Q, CLAIM, MODEL)
        self.assertIs(broken_holds(formula=Q, claim=CLAIM, paper=MODEL), True)
        self.assertHolds(broken_holds, G, ("broken", ((2, 1),), "shut"), (("add", (1,)), ("add", ())))
        self.assertHolds(broken_holds, G, ("broken", ((2, 1),), "shut"), (("drop", (1, 2, 3)), ("add", (1,)), ("add", ())))

    def test_models_of_the_formula_alone(self):
        for paper in ((1, -2), (-1, 2), (1, -2, 3), (-1, 2, 3), (-1, 2, -3), (1, -2, 3, 4), (1, -2, -3, 4)):
            self.assertNot(broken_holds, Q, CLAIM, paper)
        self.assertNot(broken_holds, Q, ("broken", ((-1, -2),), "open"), (-1, 2, 3))

    def test_refutations_cut_or_of_another_formula(self):
        claim = ("broken", ((2, 1),), "shut")
        for paper in ((), (("add", (1,)),), END, (("add", (4,)), ("add", ())), (("drop", (1, 2)), ("add", ()))):
            self.assertNot(broken_holds, G, claim, paper)
        drop = (("drop", (1, 2, 3)),) + (("add", (1,)), ("add", ()))
        self.assertHolds(broken_holds, G, claim, drop)
        self.assertNot(broken_holds, G, ("broken", (), "shut"), drop)
        self.assertNot(broken_holds, G, ("broken", ((1, 2),), "shut"), drop)

    def test_the_other_word(self):
        self.assertNot(broken_holds, Q, ("broken", ((2, 1),), "shut"), MODEL)
        self.assertNot(broken_holds, G, ("broken", ((2, 1),), "open"), (("add", (1,)), ("add", ())))
        for word in ("Open", "", "met", None, 1, (), True, ["open"]):
            self.assertNot(broken_holds, Q, ("broken", ((2, 1),), word), MODEL)

    def test_rows_that_are_none_or_do_not_keep_the_formula(self):
        free = Formula(2, ())
        for wrong in NO_TURNINGS + ((), (1,), (1, 2, 3)):
            for model in ((1, 2), (1, 2, 3), (1, 2, 3, 4), MODEL):
                self.assertNot(broken_holds, Q, ("broken", (wrong,), "open"), model)
                self.assertNot(broken_holds, free, ("broken", ((2, 1), wrong), "open"), model)
            self.assertNot(broken_holds, Formula(2, ((),)), ("broken", (wrong,), "shut"), END)
        for wrong in ((1, -2), (-1, 2), (2, -1), (-2, 1)):
            self.assertNot(broken_holds, Q, ("broken", (wrong,), "open"), MODEL)
            self.assertNot(broken_holds, Q, ("broken", ((2, 1), wrong), "open"), MODEL + (4,))
        self.assertHolds(broken_holds, Q, ("broken", ((2, 1), (1, 2)), "open"), MODEL + (4,))
        self.assertNot(broken_holds, Q, ("broken", ((2, 1), (1, 2)), "open"), MODEL + (-4,))

    def test_papers_of_other_rows_or_another_formula(self):
        self.assertNot(broken_holds, Q, ("broken", ((2, 1), (2, 1)), "open"), MODEL)
        self.assertNot(broken_holds, Q, ("broken", (), "open"), MODEL)
        self.assertNot(broken_holds, Q.without(0), CLAIM, (1, 2, -3))
        self.assertHolds(broken_holds, Q.without(0), CLAIM, MODEL)
        self.assertNot(broken_holds, Q.with_clause((1,)), CLAIM, MODEL)
        self.assertNot(broken_holds, Formula(3, Q.clauses), CLAIM, MODEL)

    def test_odd_claims_and_papers(self):
        self.assertLooksClosely(broken_holds, Q, CLAIM, MODEL)
        self.assertLooksClosely(broken_holds, G, ("broken", ((2, 1), (-1, -2)), "shut"), (("add", (1,)), ("add", ())))
        self.assertLooksClosely(broken_holds, Formula(0, ()), ("broken", ((),), "open"), ())
        for odd in ODD_VALUES:
            self.assertNot(broken_holds, Q, ("broken", odd, "open"), MODEL)
            self.assertNot(broken_holds, Q, ("broken", (odd,), "open"), MODEL)
            if odd != "open":
                self.assertNot(broken_holds, Q, ("broken", ((2, 1),), odd), MODEL)
        for claim in (("broken", ((2, 1),)), CLAIM + ((),), ("Broken",) + CLAIM[1:], ("broken", "open", ((2, 1),)),
                      ("broken", (2, 1), "open"), ("open", ((2, 1),), "broken"), ("broken",), CLAIM[1]):
            self.assertNot(broken_holds, Q, claim, MODEL)


if __name__ == "__main__":
    unittest.main()
