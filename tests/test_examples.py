"""The examples of section 16 of the document, for the modules that have landed (copied to examples.txt)."""

import unittest
from pathlib import Path

from clausehold import errors
from clausehold.errors import ClauseError


def examples():
    text = Path(__file__).with_name("examples.txt").read_text(encoding="utf-8")
    for block in text.strip("\n").split("\n\n"):
        lines = block.split("\n")
        told = [line[4:] for line in lines if line.startswith(">>> ")]
        yield told, "\n".join(line for line in lines if not line.startswith(">>> "))


def outcome(told):
    """What the last line comes to, as the document writes it, and the error if there is one."""
    names = {}
    try:
        for line in told[:-1]:
            exec(line, names)
        if told[-1].startswith(("from ", "import ")):
            raise AssertionError("an example ends with an import")
        return repr(eval(told[-1], names)), None
    except ClauseError as error:
        return None, error


class TestExamples(unittest.TestCase):
    def test_examples(self):
        for told, expected in examples():
            with self.subTest(told=told):
                have, error = outcome(told)
                if expected.startswith("raises "):
                    wanted = eval(expected[len("raises "):], dict(vars(errors)))
                    self.assertIs(error.__class__, wanted.__class__)
                    self.assertEqual(repr(sorted(vars(error).items())), repr(sorted(vars(wanted).items())))
                else:
                    self.assertIsNone(error)
                    self.assertEqual(have, expected)

    def test_there_are_examples(self):
        self.assertGreaterEqual(len(list(examples())), EXAMPLES)


EXAMPLES = 72


if __name__ == "__main__":
    unittest.main()
