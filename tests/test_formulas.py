"""Points [2], [6] and [7]."""

import copy
import random
import unittest

from clausehold.errors import InvalidClause, InvalidFormula, InvalidLiterals, InvalidNumber, InvalidText, Undefined
from clausehold.formulas import Formula, joined, read_formula
from tests.helpers import ODD_VALUES, Case, nested, random_formulas

F = Formula(3, ((1, 2), (-1, 3), (-2, -3)))


class TestMaking(Case):
    def test_attributes(self):
        self.assertSame((F.n, F.clauses), (3, ((1, 2), (-1, 3), (-2, -3))))
        self.assertSame((Formula(0, ()).n, Formula(0, ()).clauses), (0, ()))
        self.assertSame(Formula(0, [()]).clauses, ((),))
        self.assertSame(Formula(2, [(1,), (), (1,), (1,)]).clauses, ((1,), (), (1,), (1,)))
        self.assertSame(Formula(clauses=[(-5,)], n=10 ** 15).clauses, ((-5,),))

    def test_a_list_changed_later_has_no_effect(self):
        handed = [(1,), (2,)]
        made = Formula(2, handed)
        handed.append((1, 2))
        handed[0] = ()
        self.assertSame(made.clauses, ((1,), (2,)))

    def test_the_argument_stays_as_it_is(self):
        handed = [(1,), (2,)]
        Formula(2, handed).with_clause((1, 2))
        self.assertEqual(handed, [(1,), (2,)])

    def test_wrong_n(self):
        for n in (-1, True, False, None, "2", (), [1], (1,), 1.0):
            self.assertRaisesWith(InvalidNumber, {"value": n}, Formula, n, ())

    def test_wrong_clauses(self):
        for clauses in (None, True, 0, 1, "", "12", "ab"):
            self.assertRaisesWith(InvalidFormula, {"value": clauses}, Formula, 2, clauses)
        with self.assertRaises(InvalidFormula) as caught:
            Formula(3, F)
        self.assertIs(caught.exception.value, F)

    def test_the_first_member_that_is_no_clause(self):
        for wrong in ((2, 1), (1, 1), (1, -1), (0,), (3,), (-3,), [1], [], None, True, 1, "1", (True,), (1, None),
                      ((1,),), nested(28)[0]):
            self.assertRaisesWith(InvalidClause, {"value": wrong}, Formula, 2, ((1,), (), wrong, (9,), None))
            self.assertRaisesWith(InvalidClause, {"value": wrong}, Formula, 2, [wrong, (9,)])
        self.assertRaisesWith(InvalidClause, {"value": (1,)}, Formula, 0, ((), (1,)))

    def test_the_order_of_the_errors(self):
        self.assertRaisesWith(InvalidNumber, {"value": -1}, Formula, -1, None)
        self.assertRaisesWith(InvalidNumber, {"value": True}, Formula, True, ((0,),))
        self.assertRaisesWith(InvalidFormula, {"value": None}, Formula, 1, None)
        self.assertRaisesWith(InvalidClause, {"value": (0,)}, Formula, 1, [(0,), None])

    def test_errors_keep_the_values_themselves(self):
        wrong = [1]
        with self.assertRaises(InvalidClause) as caught:
            Formula(1, [(1,), wrong])
        self.assertIs(caught.exception.value, wrong)

    def test_formulas_are_not_iterable(self):
        for formula in (F, Formula(0, ())):
            with self.assertRaises(TypeError):
                iter(formula)
            with self.assertRaises(TypeError):
                list(formula)
            with self.assertRaises(TypeError):
                (1, 2) in formula


class TestEquality(Case):
    def test_equal_if_both_are(self):
        self.assertTrue(F == Formula(3, [(1, 2), (-1, 3), (-2, -3)]))
        self.assertFalse(F != Formula(3, [(1, 2), (-1, 3), (-2, -3)]))
        self.assertIs(Formula(0, ()) == Formula(0, []), True)

    def test_unlike(self):
        for other in (Formula(4, F.clauses), Formula(3, F.clauses[:2]), Formula(3, F.clauses[::-1]), Formula(3, ()),
                      Formula(3, F.clauses + F.clauses[:1])):
            self.assertIs(F == other, False)
            self.assertIs(F != other, True)

    def test_equal_to_nothing_else(self):
        class Claimer:
            def __eq__(self, other):
                return True

        for other in ODD_VALUES + (F.clauses, (3, F.clauses), str(F), 3, Claimer()):
            self.assertIs(F == other, False)
            self.assertIs(F != other, True)

    def test_len(self):
        self.assertSame([len(F), len(Formula(2, ())), len(Formula(1, ((1,), (1,), ())))], [3, 0, 3])


class TestWithAndWithout(Case):
    def test_with_clause(self):
        self.assertEqual(F.with_clause((2,)), Formula(3, F.clauses + ((2,),)))
        self.assertEqual(F.with_clause(()), Formula(3, F.clauses + ((),)))
        self.assertEqual(F.with_clause(clause=(1, 2)), Formula(3, F.clauses + ((1, 2),)))
        self.assertEqual(len(F), 3)

    def test_with_what_is_no_clause(self):
        for wrong in ((4,), (2, 1), (0,), [1], None, True, 1, "1", (True,), ((1,),)):
            self.assertRaisesWith(InvalidClause, {"value": wrong}, F.with_clause, wrong)

    def test_without(self):
        self.assertSame(F.without(0).clauses, ((-1, 3), (-2, -3)))
        self.assertSame(F.without(place=1).clauses, ((1, 2), (-2, -3)))
        self.assertSame(F.without(2).clauses, ((1, 2), (-1, 3)))
        self.assertEqual(Formula(2, ((1,), (1,))).without(0), Formula(2, ((1,),)))
        self.assertEqual(len(F), 3)

    def test_without_what_is_no_place(self):
        for wrong in (3, -1, 10 ** 13, True, False, None, "0", (), (0,), [0], 0.0):
            self.assertRaisesWith(InvalidNumber, {"value": wrong}, F.without, wrong)
        self.assertRaisesWith(InvalidNumber, {"value": 0}, Formula(1, ()).without, 0)

    def test_only(self):
        self.assertEqual(F.only((0, 2)), Formula(3, ((1, 2), (-2, -3))))
        self.assertEqual(F.only([1]), Formula(3, ((-1, 3),)))
        self.assertEqual(F.only(places=(0, 1, 2)), F)
        self.assertEqual(F.only(()), Formula(3, ()))
        self.assertEqual(F.only([]), Formula(3, ()))

    def test_only_what_are_no_places(self):
        for wrong in ((2, 0), (0, 0), (3,), (-1,), (0, 3), [True], (0, True), (False,), None, 0, True, "", "01", (None,),
                      ((0,),), ([0],), {0: 1}):
            self.assertRaisesWith(InvalidLiterals, {"value": wrong}, F.only, wrong)

    def test_under(self):
        self.assertEqual(F.under((1, -2)), Formula(3, F.clauses + ((1,), (-2,))))
        self.assertEqual(F.under(literals=()), F)
        self.assertEqual(F.under((-1, 2, -3)).clauses, F.clauses + ((-1,), (2,), (-3,)))

    def test_under_what_is_no_row_of_literals(self):
        for wrong in ((2, 1), (1, -1), (1, 1), (4,), (0,), [1], [], None, True, 1, "", (True,), (1, None), ((1,),)):
            self.assertRaisesWith(InvalidLiterals, {"value": wrong}, F.under, wrong)

    def test_joined(self):
        other = Formula(3, ((2,), (1, 2)))
        self.assertEqual(joined(F, other), Formula(3, F.clauses + ((2,), (1, 2))))
        self.assertEqual(joined(one=other, other=F), Formula(3, other.clauses + F.clauses))
        self.assertEqual(joined(Formula(0, ()), Formula(0, ((),))), Formula(0, ((),)))

    def test_joined_of_unlike_sizes(self):
        for one, other in ((Formula(1, ()), Formula(2, ())), (F, Formula(0, ())), (Formula(0, ()), F)):
            self.assertRaisesWith(Undefined, {"what": "size"}, joined, one, other)

    def test_formulas_stay_as_they_are(self):
        before = copy.deepcopy((F.n, F.clauses))
        F.with_clause((1,)), F.without(0), F.only((0,)), F.under((1,)), joined(F, F), str(F), len(F)
        self.assertSame((F.n, F.clauses), before)


class TestTexts(Case):
    def test_str(self):
        self.assertEqual(str(F), "vars 3\n1 2\n-1 3\n-2 -3")
        self.assertEqual(str(Formula(0, ())), "vars 0")
        self.assertEqual(str(Formula(0, ((),))), "vars 0\n-")
        self.assertEqual(str(Formula(12, ((-10, 12), (), (1,), (1,)))), "vars 12\n-10 12\n-\n1\n1")

    def test_read(self):
        self.assertEqual(read_formula("vars 0"), Formula(0, ()))
        self.assertEqual(read_formula("vars 0\n-\n-"), Formula(0, ((), ())))
        self.assertEqual(read_formula("vars 12\n-10 12\n-\n1\n1"), Formula(12, ((-10, 12), (), (1,), (1,))))
        self.assertEqual(read_formula(text="vars 999999999999\n-999999999999"),
                         Formula(999999999999, ((-999999999999,),)))

    def test_reading_what_is_told(self):
        for formula in random_formulas(1, 300, 12, 12, 6):
            self.assertEqual(read_formula(str(formula)), formula)
            self.assertEqual(str(read_formula(str(formula))), str(formula))

    def test_a_wrong_first_line(self):
        for line in ("", " ", "vars", "vars ", "vars  1", " vars 1", "vars 1 ", "vars -1", "vars -0", "vars 00",
                     "vars 01", "vars +1", "vars 1 2", "vars x", "vars 1x", "Vars 1", "VARS 1", "var 1", "varss 1",
                     "vars\t1", "vars 1\r", "1 2", "-", "vars 1000000000000", "vars \u0661", "vars \u00b2", "vars 1_0",
                     "vars 1.0", "\ufeffvars 1", "vars-1", "vars1"):
            for rest in ("", "\n", "\n1", "\n2 1", "\n-\n-"):
                self.assertRaisesWith(InvalidText, {"text": line + rest, "at": 0}, read_formula, line + rest)

    def test_a_wrong_clause_line(self):
        for line in ("", " ", "2 1", "1 1", "1 -1", "0", "-0", "3", "-3", "1 3", "01", "-01", "+1", "1  2", " 1", "1 ",
                     "--1", "- 1", "1 -", "- ", "--", "-1-2", "1,2", "1\t2", "1\r", "x", "1 x", "vars 2",
                     "1000000000001", "\u0661", "\u00b2", "1_0", "1.0", "()", "1 0"):
            for ahead in ("vars 2", "vars 2\n1 2", "vars 2\n-\n-1\n-1"):
                for behind in ("", "\n1", "\n", "\n2 1"):
                    text = f"{ahead}\n{line}{behind}"
                    self.assertRaisesWith(InvalidText, {"text": text, "at": len(ahead) + 1}, read_formula, text)

    def test_an_integer_of_more_than_12_figures(self):
        text = "vars 999999999999\n1\n-1000000000000"
        self.assertRaisesWith(InvalidText, {"text": text, "at": 20}, read_formula, text)
        text = "vars 5\n" + "1" * 6000
        self.assertRaisesWith(InvalidText, {"text": text, "at": 7}, read_formula, text)
        text = "vars " + "1" * 6000
        self.assertRaisesWith(InvalidText, {"text": text, "at": 0}, read_formula, text)

    def test_an_empty_line_at_the_end_is_wrong_at_the_length(self):
        for text in ("vars 1\n", "vars 1\n1\n", "vars 0\n-\n", ""):
            self.assertRaisesWith(InvalidText, {"text": text, "at": len(text)}, read_formula, text)
        self.assertRaisesWith(InvalidText, {"text": "\n", "at": 0}, read_formula, "\n")
        self.assertRaisesWith(InvalidText, {"text": "vars 1\n\n", "at": 7}, read_formula, "vars 1\n\n")

    def test_other_line_ends_are_part_of_a_line(self):
        for sign in ("\r", "\x0b", "\x0c", "\x1c", "\x85", "\u2028"):
            text = f"vars 2\n1{sign}2"
            self.assertRaisesWith(InvalidText, {"text": text, "at": 7}, read_formula, text)

    def test_texts_with_one_sign_changed(self):
        rng = random.Random(2)
        for formula in random_formulas(3, 200, 11, 6, 4):
            text = str(formula)
            at = rng.randrange(len(text) + 1)
            sign = rng.choice("0123456789- \nvx\r")
            other = text[:at] + sign + text[at + rng.randint(0, 1):]
            try:
                self.assertEqual(str(read_formula(other)), other)
            except InvalidText as error:
                self.assertEqual(error.text, other)
                self.assertTrue(error.at == 0 or other[error.at - 1] == "\n")
                if error.at > 0:
                    # All lines ahead of the wrong one make a text themselves, and it makes none with the wrong one.
                    good = other[:error.at - 1]
                    self.assertEqual(str(read_formula(good)), good)
                    line = other[error.at:].split("\n")[0]
                    self.assertRaisesWith(InvalidText, {"text": good + "\n" + line, "at": error.at}, read_formula,
                                          good + "\n" + line)

    def test_a_long_text(self):
        text = "vars 20\n" + "\n".join(["1 -2 3 -20"] * 18000)
        self.assertEqual(len(read_formula(text)), 18000)
        self.assertRaisesWith(InvalidText, {"text": text + "\n", "at": len(text) + 1}, read_formula, text + "\n")


if __name__ == "__main__":
    unittest.main()
