"""Points [1], [2] and [7]: of what kind a value is, and integers in texts."""

import unittest

from clausehold.figures import integer_told, number_told
from clausehold.formulas import Formula
from clausehold.kinds import is_number, is_plain, is_sequence, is_tuple_of, is_whole
from tests.helpers import Case, nested


class TestKinds(Case):
    def test_integers_and_numbers(self):
        for value, whole, number in ((0, True, True), (7, True, True), (-1, True, False), (10 ** 20, True, True),
                                     (True, False, False), (False, False, False), (None, False, False),
                                     ("1", False, False), ((1,), False, False), (1.0, False, False)):
            self.assertIs(is_whole(value), whole)
            self.assertIs(is_number(value), number)

    def test_sequences(self):
        for value in ((), [], (1,), [[]]):
            self.assertIs(is_sequence(value), True)
        for value in (None, "", "ab", 0, True, {}, Formula(0, ())):
            self.assertIs(is_sequence(value), False)

    def test_tuples(self):
        self.assertIs(is_tuple_of((1, 2), 2), True)
        self.assertIs(is_tuple_of((), 0), True)
        for value in ((1,), (1, 2, 3), [1, 2], "ab", None, 2, Formula(1, ((1,), (-1,)))):
            self.assertIs(is_tuple_of(value, 2), False)

    def test_plain_values(self):
        for value in ((), 0, -5, "", "word", (1, ("a", ((),))), nested(30), nested(5000)):
            self.assertIs(is_plain(value), True)
        for value in (None, True, False, [], (1, [2]), (((True,),),), ("a", None), Formula(0, ()), (Formula(0, ()),),
                      ([],), 1.5, {}, nested(30, list)):
            self.assertIs(is_plain(value), False)


class TestFigures(Case):
    def test_integers(self):
        for word, integer in (("0", 0), ("7", 7), ("-7", -7), ("10", 10), ("-100", -100), ("9" * 12, 10 ** 12 - 1),
                              ("-" + "9" * 12, 1 - 10 ** 12)):
            self.assertSame(integer_told(word), integer)
            self.assertSame(number_told(word), integer if integer >= 0 else None)

    def test_what_tells_none(self):
        for word in ("", "-", "-0", "00", "01", "-01", "+1", "--1", "1-", " 1", "1 ", "1" * 13, "-" + "1" * 13, "x", "1x",
                     "\u0661", "\u00b2", "1_0", "1.0"):
            self.assertIsNone(integer_told(word))
            self.assertIsNone(number_told(word))


if __name__ == "__main__":
    unittest.main()
