"""Point [35]: texts of values."""

import random
import unittest

from clausehold.errors import InvalidText
from clausehold.told import told, untold
from tests.helpers import Case, nested
from tests.slow import slow_text, slow_value

NO_TEXTS = (
    "", " ", "\n", "(", ")", ",", '"', '""', "()()", "(,)", "(1)", "(1,2,)", "(,1)", "(1,,2)", "(1 ,2)", "(1, 2)", " 1", "1 ", "1\n",
    "( )", "(1,2", "1,2", "1)", "((1,)", "(1,))", "-", "--1", "+1", "-0", "00", "01", "-01", "1-1", "1.0", "1e3", "0x1", "1_0",
    "1000000000000", "-1000000000000", "9999999999999", "(1000000000000,)", '"A"', '"a', 'a"', "a", "'a'", '"a1"', '"a-b"', '"a,b"',
    '"a(b"', '"a\nb"', '"a\tb"', '"\u00e9"', '"a""b"', '("a""b")', '("a" "b")', "None", "True", "[1]", "[]", "{}", '("a",5)x',
    '("a",5),', "\u0661", "(\u0661,)", "\u00b2", '""a"', '"a"b', "1a", 'a1', '("",)', "(-,)", "(1-,)", "1--1", "12345678901234567890",
    "(" * 61 + ")" * 61, "(" * 60, ")" * 60, "(" * 5000, "(1," * 40, "1" * 5000, '"' + "a" * 5000, "()" + ")" * 60, "()\n", "\n()",
    "(1,\n2)", "(1\u00a0,)", "\ufeff1", "-\u0661", "1\x00", "(1,)()",
)


def random_value(rng, deep=4):
    kind = rng.random()
    if kind < 0.4 and deep:
        return tuple(random_value(rng, deep - 1) for _ in range(rng.choice((0, 1, 1, 2, 2, 3, 5))))
    if kind < 0.7:
        return "".join(rng.choice("abcxyz ") for _ in range(rng.randint(1, 6)))
    return rng.choice((0, 1, -1, rng.randint(-20, 20), rng.randint(-10 ** 12 + 1, 10 ** 12 - 1)))


def spoilt(rng, text):
    """A text with a sign left out, put in, replaced or exchanged, or cut off."""
    signs = '()",-0123456789 azAZ\n\'[]+._\u00e9'
    at = rng.randint(0, len(text))
    kind = rng.randint(0, 4)
    if kind == 0:
        return text[:at] + text[at + 1:]
    if kind == 1:
        return text[:at] + rng.choice(signs) + text[at:]
    if kind == 2:
        return text[:at] + rng.choice(signs) + text[at + 1:]
    if kind == 3:
        return text[:at] + text[at + 1:at + 2] + text[at:at + 1] + text[at + 2:]
    return text[:at]


class TestTold(Case):
    def test_texts(self):
        self.assertSame(told((1, -2, "no way", ())), '(1,-2,"no way",())')
        self.assertSame(told(value=("a", (5,))), '("a",(5,))')
        self.assertSame([told(0), told(-7), told("a"), told("z "), told(" "), told("   ")],
                        ["0", "-7", '"a"', '"z "', '" "', '"   "'])
        self.assertSame([told(()), told(((),)), told((0,)), told(("b",)), told(((), ())), told((1, 2))],
                        ["()", "((),)", "(0,)", '("b",)', "((),())", "(1,2)"])

    def test_integers_of_any_size(self):
        for size in (1, 11, 12, 13, 17, 18, 19, 35, 36, 37, 54, 100, 900):
            for value in (10 ** size, 10 ** size - 1, 10 ** size + 1, 123456789 * 10 ** size + 98765):
                self.assertSame([told(value), told(-value), told((value,))], [str(value), str(-value), f"({value},)"])
        self.assertSame(told(10 ** 6000), "1" + "0" * 6000)
        self.assertSame(told((-10 ** 5000,)), "(-1" + "0" * 5000 + ",)")

    def test_deep_values(self):
        for deep in (1, 30, 59, 60, 61, 90):
            self.assertSame(told(nested(deep)), "(" * deep + ",".join([")"] * deep))

    def test_random_values(self):
        rng = random.Random(501)
        for _ in range(3000):
            value = random_value(rng)
            self.assertSame(told(value), slow_text(value))
            self.assertSame(untold(told(value)), value)


class TestUntold(Case):
    def assertNoText(self, text):
        with self.assertRaises(InvalidText) as caught:
            untold(text)
        self.assertIs(caught.exception.__class__, InvalidText)
        self.assertEqual(sorted(vars(caught.exception)), ["at", "text"])
        self.assertIs(caught.exception.text, text)
        self.assertIs(caught.exception.at.__class__, int)
        self.assertTrue(0 <= caught.exception.at <= len(text), (text, caught.exception.at))

    def test_values(self):
        self.assertSame(untold('("a",(5,))'), ("a", (5,)))
        self.assertSame(untold(text='(1,-2,"no way",())'), (1, -2, "no way", ()))
        self.assertSame([untold("0"), untold("-7"), untold('"a"'), untold('" "'), untold("()"), untold("((),)")],
                        [0, -7, "a", " ", (), ((),)])

    def test_integers_of_twelve_figures_and_of_thirteen(self):
        for text in ("999999999999", "-999999999999", "100000000000", "-100000000000", "(999999999999,-999999999999)"):
            self.assertSame(untold(text), eval(text))
        for text in ("1000000000000", "-1000000000000", "(1,1000000000000)", "0999999999999", "-0", "(-0,)", "00", "000000000001"):
            self.assertNoText(text)

    def test_sixty_tuples_within_one_another_and_sixty_one(self):
        self.assertSame(untold(told(nested(60))), nested(60))
        self.assertSame(untold("(" * 60 + '"a"' + ",)" * 60), eval("(" * 60 + '"a"' + ",)" * 60))
        self.assertSame(untold("(1," * 60 + "2" + ")" * 60), eval("(1," * 60 + "2" + ")" * 60))
        self.assertSame(untold("(" + "()," * 99 + "())"), ((),) * 100)
        self.assertNoText(told(nested(61)))
        self.assertNoText("(" * 61 + "1" + ",)" * 61)
        self.assertNoText("(1," * 60 + "()" + ")" * 60)
        # Depth is what is counted, not how many there are.
        self.assertSame(untold(told((nested(59), nested(59), nested(59)))), (nested(59), nested(59), nested(59)))
        self.assertNoText(told((nested(59), nested(60))))

    def test_words(self):
        every = "abcdefghijklmnopqrstuvwxyz "
        for sign in every:
            self.assertSame(untold('"' + sign + '"'), sign)
        self.assertSame(untold('"' + every + '"'), every)
        for sign in map(chr, list(range(0, 300)) + [0x3b1, 0x2003, 0x1d41a]):
            if sign not in every:
                self.assertNoText('"' + sign + '"')
                self.assertNoText('"a' + sign + '"')
                self.assertNoText('("a","' + sign + 'b")')

    def test_what_is_no_text(self):
        for text in NO_TEXTS:
            self.assertIsNone(slow_value(text))
            self.assertNoText(text)
            self.assertNoText("(" + text + ",)" if text not in ("1,2", "()()", '""') else text)

    def test_spoilt_texts(self):
        rng = random.Random(502)
        good = 0
        for _ in range(20000):
            text = told(random_value(rng, 3))
            for _ in range(rng.randint(1, 2)):
                text = spoilt(rng, text)
            value = slow_value(text)
            if value is None:
                self.assertNoText(text)
            else:
                self.assertSame(untold(text), value)
                good += 1
        self.assertGreater(good, 1500)

    def test_long_texts(self):
        value = tuple((k, -k, "word", (k,)) for k in range(9000))
        text = told(value)
        self.assertGreater(len(text), 200000)
        self.assertSame(untold(text), value)
        self.assertNoText(text[:-1])
        self.assertNoText(text + " ")
        for sign in '("-1a ,)':
            self.assertNoText(sign * 200001)


if __name__ == "__main__":
    unittest.main()
