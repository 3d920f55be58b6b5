"""Point [13]: refutations trimmed, and resolutions."""

import random
import unittest

from clausehold.errors import InvalidStep
from clausehold.formulas import Formula
from clausehold.resolutions import resolution, resolution_holds, trimmed
from clausehold.solving import open_holds, open_paper
from tests.helpers import (
    NO_PARTS, ODD_VALUES, Case, broken_formula, changed_anywhere, counted_formula, listed_anywhere, nested,
    parity_formula, random_steps, shut_formulas, slowly_refutes, true_for_one,
)

F = Formula(3, ((1, 2), (-1, 3), (-2, -3)))
G = Formula(1, ((1,), (-1,)))
SQUARE = Formula(2, ((1, 2), (1, -2), (-1, 2), (-1, -2)))
END = (("add", ()),)
# Lines of SQUARE: 0 to 3, then the triples: (1), (-1), the empty clause.
ROWS = (((1,), 0, 1), ((-1,), 2, 3), ((), 4, 5))

NO_REFUTATIONS = ODD_VALUES + (
    (), list(END), [], None, (("drop", ()),), (("add", (1,)),), END + (("add", (1,)),), END + (("drop", ()),),
    (("add", [1]),) + END, (("add", (True,)),) + END, (("add", (1,), ()),) + END, (("put", (1,)),) + END, (END,),
    (["add", ()],), (("add", (9,)),) + END, (("drop", (1, 2)), ("drop", (1, 2))) + END, nested(30), nested(30, list),
)


def cannot_be_left_out(formula, steps):
    """Whether steps refute formula, and none of them can be left out alone."""
    return slowly_refutes(formula, steps) and not any(
        slowly_refutes(formula, steps[:at] + steps[at + 1:]) for at in range(len(steps)))


def slowly_resolves(formula, rows):
    """Whether a tuple of triples of a clause and two numbers is a resolution, told as the document tells it."""
    lines = list(formula.clauses)
    for clause, i, j in rows:
        if max(i, j) >= len(lines):
            return False
        clashing = [v for v in range(1, formula.n + 1) if v in lines[i] and -v in lines[j]]
        if len(clashing) != 1:
            return False
        others = {x for x in lines[i] if x != clashing[0]} | {x for x in lines[j] if x != -clashing[0]}
        if tuple(sorted(others, key=abs)) != clause or any(-x in others for x in others):
            return False
        lines.append(clause)
    return lines[-1] == () if rows else () in lines


class TestTrimmed(Case):
    def test_what_is_needed_stays(self):
        self.assertSame(trimmed(G, END), END)
        self.assertSame(trimmed(SQUARE, (("add", (1,)),) + END), (("add", (1,)),) + END)
        self.assertSame(trimmed(formula=F.under((1, 2)), steps=END), END)

    def test_what_is_not_needed_goes(self):
        self.assertSame(trimmed(G, (("add", (1,)),) + END), END)
        self.assertSame(trimmed(SQUARE, (("add", (1,)), ("add", (1,))) + END), (("add", (1,)),) + END)
        self.assertSame(trimmed(SQUARE, (("add", (1, 2)), ("add", (1,))) + END), (("add", (1,)),) + END)
        steps = trimmed(SQUARE, (("add", (2,)), ("add", (1,)), ("add", (-2,))) + END)
        self.assertEqual(len(steps), 2)
        self.assertTrue(cannot_be_left_out(SQUARE, steps))

    def test_drops_go(self):
        steps = (("add", (1,)), ("drop", (1, 2)), ("drop", (1, -2))) + END
        self.assertSame(trimmed(SQUARE, steps), (("add", (1,)),) + END)
        steps = (("add", (1,)), ("drop", (1,)), ("add", (2,))) + END
        self.assertSame(len(trimmed(SQUARE, steps)), 2)

    def test_a_clause_added_dropped_and_added_again(self):
        steps = (("add", (1,)), ("drop", (1,)), ("add", (1,))) + END
        self.assertSame(trimmed(SQUARE, steps), (("add", (1,)),) + END)

    def test_the_empty_clause_ahead(self):
        self.assertSame(trimmed(G, END + END), END)
        self.assertSame(trimmed(G, END + (("add", (1,)),) + END), END)
        self.assertSame(trimmed(G, END + (("drop", ()), ("add", (-1,))) + END), END)
        self.assertSame(trimmed(SQUARE, (("add", (1,)),) + END + (("add", (2,)),) + END), (("add", (1,)),) + END)

    def test_a_formula_with_the_empty_clause(self):
        for formula in (Formula(0, ((),)), Formula(0, ((), ())), Formula(2, ((1, 2), (), (-1,)))):
            self.assertSame(trimmed(formula, END), END)
            self.assertSame(trimmed(formula, END + END), END)
            self.assertSame(trimmed(formula, (("drop", ()), ("add", ())) * 2) if len(formula) == 2 else END, END)

    def test_a_clause_that_comes_twice(self):
        twice = SQUARE.with_clause((1, 2))
        self.assertSame(trimmed(twice, (("drop", (1, 2)), ("add", (1,))) + END), (("add", (1,)),) + END)

    def test_what_later_ones_alone_need(self):
        # (1, 2) is needed for (1,) alone, which is needed for the end.
        cube = Formula(3, [(a, 2 * b, 3 * c) for a in (1, -1) for b in (1, -1) for c in (1, -1)])
        steps = (("add", (1, 2)), ("add", (1,)), ("add", (-1, 2)), ("add", (2,))) + END
        self.assertTrue(slowly_refutes(cube, steps))
        self.assertTrue(cannot_be_left_out(cube, trimmed(cube, steps)))
        steps = (("add", (1, 2)), ("add", (1, 3)), ("add", (1,)), ("add", (2, 3)), ("add", (2,)), ("add", (3,))) + END
        self.assertTrue(cannot_be_left_out(cube, trimmed(cube, steps)))

    def test_against_the_words_of_the_document(self):
        rng = random.Random(51)
        shorter = 0
        for formula in shut_formulas(52, 400):
            steps = random_steps(rng, formula)
            self.assertTrue(slowly_refutes(formula, steps))
            out = trimmed(formula, steps)
            self.assertTrue(cannot_be_left_out(formula, out), (formula.clauses, steps, out))
            adds = [step for step in steps if step[0] == "add"]
            self.assertTrue(all(step in adds for step in out))
            self.assertSame(trimmed(formula, steps), out)
            self.assertSame(trimmed(formula, out), out)
            self.assertIs(open_holds(formula, ("shut", ()), out), True)
            shorter += len(out) < len(set(adds))
        self.assertGreater(shorter, 100)

    def test_no_refutations(self):
        for formula in (SQUARE, F, Formula(0, ()), Formula(1, ((1,),)), Formula(1, ((1,), (-1,)))):
            for wrong in NO_REFUTATIONS:
                for call in (trimmed, resolution):
                    self.assertRaisesWith(InvalidStep, {"step": wrong}, call, formula, wrong)
        for formula in (SQUARE, F, Formula(2, ())):
            for call in (trimmed, resolution):
                self.assertRaisesWith(InvalidStep, {"step": END}, call, formula, END)
        for place in range(4):
            wrong = (("add", (1,)),) + END
            self.assertRaisesWith(InvalidStep, {"step": wrong}, trimmed, SQUARE.without(place), wrong)

    def test_many_variables(self):
        for formula in (counted_formula(9, 5, 4), counted_formula(10, 7, 6), parity_formula(9, (0, 1)),
                        broken_formula(parity_formula(6, (0, 1)), [(2, 3, 4, 5, 6, 1), (1, 2, 3, 4, -5, -6)])):
            steps = open_paper(formula, ())
            out = trimmed(formula, steps)
            self.assertIs(open_holds(formula, ("shut", ()), out), True)
            self.assertTrue(all(step in steps for step in out))
            for at in range(0, len(out), max(1, len(out) // 10)):
                self.assertIs(open_holds(formula, ("shut", ()), out[:at] + out[at + 1:]), False)
            self.assertIs(resolution_holds(formula, resolution(formula, steps)), True)

    def test_long_papers(self):
        steps = tuple(("add", clause) for clause in SQUARE.clauses) * 1200 + (("add", (1,)),) + END
        self.assertSame(trimmed(SQUARE, steps), (("add", (1,)),) + END)
        self.assertIs(resolution_holds(SQUARE, resolution(SQUARE, steps)), True)

    def test_the_formula_stays_as_it_is(self):
        before = repr((SQUARE.n, SQUARE.clauses))
        steps = (("add", (1,)),) + END
        trimmed(SQUARE, steps), resolution(SQUARE, steps), resolution_holds(SQUARE, ROWS)
        self.assertEqual(repr((SQUARE.n, SQUARE.clauses)), before)
        self.assertSame(steps, (("add", (1,)),) + END)


class TestResolution(Case):
    def test_a_resolution(self):
        self.assertSame(resolution(G, END), (((), 0, 1),))
        self.assertIs(resolution_holds(SQUARE, resolution(formula=SQUARE, steps=(("add", (1,)),) + END)), True)

    def test_the_empty_clause_in_the_formula(self):
        for formula in (Formula(0, ((),)), Formula(1, ((1,), (), (-1,), ()))):
            self.assertSame(resolution(formula, END), ())
            self.assertIs(resolution_holds(formula, ()), True)

    def test_against_the_words_of_the_document(self):
        rng = random.Random(53)
        seen = 0
        for formula in shut_formulas(54, 500):
            steps = random_steps(rng, formula)
            rows = resolution(formula, steps)
            self.assertSame(resolution(formula, steps), rows)
            self.assertIs(rows == (), () in formula.clauses)
            self.assertTrue(slowly_resolves(formula, rows), (formula.clauses, steps, rows))
            self.assertIs(resolution_holds(formula, rows), True)
            self.others_do_not_hold(rng, formula, rows)
            seen += len(rows) > 3
        self.assertGreater(seen, 100)

    def others_do_not_hold(self, rng, formula, rows):
        if rows:
            self.assertIs(resolution_holds(formula, rows[:-1]), slowly_resolves(formula, rows[:-1]))
            self.assertIs(resolution_holds(formula, rows + rows[-1:]), slowly_resolves(formula, rows + rows[-1:]))
        for _ in range(6 if rows else 0):
            at = rng.randrange(len(rows))
            row = list(rows[at])
            kind = rng.randrange(3)
            row[kind] = rng.randrange(len(formula) + len(rows)) if kind else rng.choice(formula.clauses)
            other = rows[:at] + (tuple(row),) + rows[at + 1:]
            self.assertIs(resolution_holds(formula, other), slowly_resolves(formula, other))


class TestResolutionHolds(Case):
    def holds(self, formula, rows):
        return resolution_holds(formula, rows)

    def test_rows(self):
        self.assertIs(self.holds(SQUARE, ROWS), True)
        self.assertIs(resolution_holds(formula=G, rows=(((), 0, 1),)), True)
        self.assertIs(self.holds(G, (((), 1, 0),)), False)
        self.assertIs(self.holds(G, ()), False)
        self.assertIs(self.holds(SQUARE, ROWS[:2]), False)
        self.assertIs(self.holds(SQUARE, ROWS[2:]), False)
        self.assertIs(self.holds(SQUARE, ROWS[:1] + (((-1,), 3, 2), ((), 4, 5))), False)
        self.assertIs(self.holds(SQUARE, ROWS[:2] + (((), 5, 4),)), False)

    def test_lines_that_are_not_ahead(self):
        for i, j in ((4, 6), (6, 5), (4, 7), (4, 100), (-2, 5), (4, -1), (-2, -1), (6, 6)):
            self.assertIs(self.holds(SQUARE, ROWS[:2] + (((), i, j),)), False, (i, j))
        self.assertIs(self.holds(SQUARE, (((1,), 0, 4),) + ROWS), False)
        self.assertIs(self.holds(SQUARE, (((), 5, 6), ((1,), 0, 1), ((-1,), 2, 3))), False)

    def test_two_variables_that_clash(self):
        formula = Formula(2, ((1, 2), (-1, -2), (1, -2), (-1, 2)))
        for clause in ((2, -2), (2,), (-2,), (), (-2, 2), (1, -1)):
            self.assertIs(self.holds(formula, (((clause), 0, 1), ((), 0, 1))), False)
            self.assertIs(self.holds(formula, (((clause), 0, 1),)), False)
            self.assertIs(self.holds(formula, (((clause), 2, 3),)), False)
        self.assertIs(self.holds(formula, (((), 0, 1),)), False)
        # One variable clashes each way round.
        crossed = Formula(2, ((1, -2), (-1, 2)))
        self.assertIs(self.holds(crossed, (((), 0, 1),)), False)
        self.assertIs(self.holds(crossed, (((-2, 2), 0, 1), ((), 0, 1))), False)

    def test_no_variable_that_clashes(self):
        formula = Formula(2, ((1,), (1, 2), (2,), (-1,)))
        for i, j in ((0, 0), (0, 1), (0, 2), (1, 2), (3, 3), (3, 0), (2, 3)):
            self.assertIs(self.holds(formula, (((), i, j),)), False)
        self.assertIs(self.holds(formula, (((), 0, 3),)), True)

    def test_the_clause_is_of_all_other_literals(self):
        formula = Formula(4, ((1, 2, 3), (-1, 3, -4), (-2,), (-3,), (4,)))
        rest = (((3, -4), 5, 2), ((-4,), 6, 3), ((), 4, 7))
        self.assertIs(self.holds(formula, (((2, 3, -4), 0, 1),) + rest), True)
        for clause in ((3, -4), (2, 3), (2, 3, 3, -4), (3, 2, -4), (2, 3, 4), (2, -4, 3), (1, 2, 3, -4), (), [2, 3, -4]):
            self.assertIs(self.holds(formula, ((clause, 0, 1),) + rest), False, clause)

    def test_the_empty_clause_ahead(self):
        self.assertIs(self.holds(G, (((), 0, 1), ((), 0, 1))), True)
        self.assertIs(self.holds(SQUARE, (ROWS[0], ROWS[1], ROWS[2], ROWS[0])), False)
        self.assertIs(self.holds(SQUARE, ROWS + ROWS[2:]), True)

    def test_a_formula_with_the_empty_clause(self):
        formula = Formula(1, ((1,), (), (-1,)))
        self.assertIs(self.holds(formula, ()), True)
        self.assertIs(self.holds(formula, (((), 0, 2),)), True)
        self.assertIs(self.holds(formula, (((), 1, 1),)), False)
        self.assertIs(self.holds(formula, (((), 0, 1),)), False)
        self.assertIs(self.holds(formula, (((), 1, 2),)), False)

    def test_a_clause_that_comes_twice(self):
        twice = Formula(1, ((1,), (1,), (-1,)))
        self.assertIs(self.holds(twice, (((), 0, 2),)), True)
        self.assertIs(self.holds(twice, (((), 1, 2),)), True)
        self.assertIs(self.holds(twice, (((), 0, 1),)), False)

    def test_a_paper_of_another_formula(self):
        self.assertIs(self.holds(SQUARE.without(3), ROWS), False)
        self.assertIs(self.holds(SQUARE.with_clause((1,)), ROWS), False)
        self.assertIs(self.holds(F, ROWS), False)
        self.assertIs(self.holds(Formula(2, SQUARE.clauses[::-1]), ROWS), False)

    def test_odd_values(self):
        for odd in ODD_VALUES + (nested(30), nested(30, list)):
            self.assertIs(self.holds(SQUARE, odd), False, odd)
            self.assertIs(self.holds(F, odd), False, odd)
            self.assertIs(self.holds(SQUARE, (odd,)), False, odd)
            self.assertIs(self.holds(SQUARE, ROWS + (odd,)), False, odd)
            self.assertIs(self.holds(SQUARE, (odd,) + ROWS), False, odd)
            for at in range(3):
                row = ROWS[2][:at] + (odd,) + ROWS[2][at + 1:]
                if repr(row) != repr(ROWS[2]):
                    self.assertIs(self.holds(SQUARE, ROWS[:2] + (row,)), False, row)
        for other in list(listed_anywhere(ROWS)) + list(true_for_one(ROWS)):
            self.assertIs(self.holds(SQUARE, other), False, other)
        for put in NO_PARTS:
            for other in changed_anywhere(ROWS, put):
                self.assertIs(self.holds(SQUARE, other), False, other)
        self.assertIs(self.holds(G, (((), False, True),)), False)

    def test_rows_too_long_or_too_short(self):
        for row in (((), 4), ((), 4, 5, 5), (4, 5), ((),), (), ((), (4, 5)), (4, 5, ()), ((), "4", "5"), ((), 4, None)):
            self.assertIs(self.holds(SQUARE, ROWS[:2] + (row,)), False, row)


if __name__ == "__main__":
    unittest.main()
