"""Point [3]: the error classes and what they keep."""

import unittest

from clausehold import errors
from clausehold.errors import (
    ClauseError, Empty, InvalidClaim, InvalidClause, InvalidFormula, InvalidLiterals, InvalidNumber, InvalidPrefix,
    InvalidQuestion, InvalidStep, InvalidText, InvalidWishes, NothingToUndo, Undefined,
)

KEPT = {
    InvalidNumber: ("value",), InvalidClause: ("value",), InvalidFormula: ("value",), InvalidLiterals: ("value",),
    InvalidText: ("text", "at"), InvalidStep: ("step",), InvalidClaim: ("value",), InvalidQuestion: ("value",),
    InvalidPrefix: ("value",), InvalidWishes: ("value",), Undefined: ("what",), Empty: ("what",),
    NothingToUndo: ("deed",),
}


class TestErrors(unittest.TestCase):
    def test_there_are_fourteen_classes(self):
        found = [x for x in vars(errors).values() if isinstance(x, type) and issubclass(x, BaseException)]
        self.assertEqual(len(found), 14)
        self.assertEqual({x for x in found}, set(KEPT) | {ClauseError})

    def test_all_stand_under_clause_error_and_none_under_another(self):
        self.assertTrue(issubclass(ClauseError, ValueError))
        for one in KEPT:
            for other in list(KEPT) + [ClauseError, ValueError]:
                expected = other in (one, ClauseError, ValueError)
                self.assertEqual(issubclass(one, other), expected, (one, other))

    def test_arguments_are_kept_as_they_are_by_position_and_by_name(self):
        for error, names in KEPT.items():
            handed = [[name, [1, True]] for name in names]
            for made in (error(*handed), error(**dict(zip(names, handed)))):
                self.assertEqual(sorted(vars(made)), sorted(names))
                for name, value in zip(names, handed):
                    self.assertIs(getattr(made, name), value)

    def test_they_can_be_raised_and_caught(self):
        for error, names in KEPT.items():
            with self.assertRaises(ClauseError) as caught:
                raise error(*names)
            self.assertIs(caught.exception.__class__, error)

    def test_the_number_of_arguments_is_held_to(self):
        for error, names in KEPT.items():
            with self.assertRaises(TypeError):
                error(*range(len(names) + 1))
            with self.assertRaises(TypeError):
                error()
