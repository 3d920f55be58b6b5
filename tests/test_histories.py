"""Point [40]: the texts of desks' histories."""

import random
import unittest

from clausehold.claims import claim_holds
from clausehold.desk import Desk, same_state
from clausehold.errors import InvalidText, NothingToUndo
from clausehold.formulas import Formula
from clausehold.histories import paper_end, paper_holds, relived
from tests.helpers import Case
from tests.slow import random_deed, random_question, slow_place, slow_text
from tests.test_told import spoilt

OPEN = ("open", ())
T = 'desk 1\nwatch ("open",())\nclaim ("open",())\npaper (-1,)'
ALL = "\n".join((
    "desk 2", 'deed ("put",(1,2))', 'watch ("open",())', 'claim ("open",())', "paper (1,2)", 'watch ("count",)', 'claim ("count",3)',
    'paper ("split",1,("free",),("split",2,("free",),("shut",(("add",()),))))', 'deed ("assume",(-1,))', 'claim ("open",())',
    "paper (-1,2)", 'claim ("count",1)',
    'paper ("split",1,("shut",(("add",()),)),("split",2,("free",),("shut",(("add",()),))))', "undo", 'claim ("open",())',
    "paper (1,-2)", 'claim ("count",3)', 'paper ("split",2,("free",),("split",1,("free",),("shut",(("add",()),))))',
    'leave ("count",)', "redo", 'claim ("open",())', "paper (-1,2)", 'leave ("open",())', 'deed ("push",)', 'deed ("pop",)'))


def random_desk(rng, most=14, questions=3, most_n=3):
    """A desk led through a drawn row of commands."""
    n = rng.randint(most_n // 2, most_n) if most_n < 3 else rng.randint(0, 3)
    desk = Desk(n)
    for _ in range(rng.randint(0, most)):
        random_command(rng, n, questions)(desk)
    return desk


def random_command(rng, n, questions=3):
    """A command that is drawn once, and may be called on several desks."""
    kind = rng.random()
    deed, question, place = random_deed(rng, n), random_question(rng, n), rng.random()

    def command(desk):
        if kind < 0.2:
            return desk.watch(question) if len(desk.watched()) < questions else None
        if kind < 0.28:
            return desk.leave(desk.watched()[int(place * len(desk.watched()))]) if desk.watched() else None
        if kind < 0.4:
            return desk.undo() if desk.done() else None
        try:
            return desk.redo() if kind < 0.5 else desk.deed(deed)
        except ValueError as error:
            return repr(error)
    return command


class HistoryCase(Case):
    def assertWrong(self, text, at):
        self.assertIs(paper_holds(text), False, text)
        for call in (paper_end, relived):
            self.assertRaisesWith(InvalidText, {"text": text, "at": at}, call, text)

    def assertTold(self, text):
        """The text holds, and a desk is led through it."""
        self.assertIs(paper_holds(text), True, text)
        desk = relived(text)
        self.assertIs(desk.__class__, Desk)
        self.assertSame(desk.paper(), text)
        here, watched = paper_end(text)
        self.assertEqual((here, here.__class__), (desk.here(), Formula))
        self.assertSame(watched, desk.watched())
        return desk

    def assertAsSlowlyRead(self, text):
        at, slow = slow_place(text)
        if at is not None:
            self.assertWrong(text, at)
            return False
        desk = self.assertTold(text)
        self.assertEqual(desk.here(), slow.here())
        self.assertSame([(x, desk.claim(x), desk.paper_for(x)) for x in desk.watched()], slow.answers)
        self.assertSame(desk.done(), tuple(deed for deed, _, _ in slow.past))
        return True


class TestTexts(HistoryCase):
    def test_ordinary(self):
        self.assertSame([paper_holds('desk 1\ndeed ("put",(1,))\nundo'), paper_holds(text='desk 1\nundo'), paper_holds(T)],
                        [True, False, True])
        desk = self.assertTold(T)
        self.assertSame([paper_end(text=T)[1], desk.paper_for(OPEN), relived(text=T).claim(OPEN)], [(OPEN,), (-1,), OPEN])
        desk = self.assertTold(ALL)
        self.assertSame([desk.done(), desk.assumed(), desk.depth()],
                        [(("put", (1, 2)), ("assume", (-1,)), ("push",), ("pop",)), (-1,), 0])

    def test_one_line(self):
        for n in (0, 1, 7, 10, 999999999999):
            desk = self.assertTold(f"desk {n}")
            self.assertIs(same_state(desk, Desk(n)), True)
        self.assertEqual(paper_end("desk 3"), (Formula(3, ()), ()))

    def test_a_first_line_that_is_wrong(self):
        for text in ("", "\n", "desk", "desk ", "desk  1", "desk -1", "desk +1", "desk 01", "desk 00", "desk -0", "desk 1 ", " desk 1",
                     "Desk 1", "desk 1000000000000", "desk x", "desk 1.0", "desk (1,)", 'desk "a"', "undo", 'deed ("push",)', "desk\n1",
                     "desk \u0661", "vars 1", "desk 1\r", "desk 1\t", "watch", 'watch ("open",())', "desk\u00a01", "\ndesk 1", "desk 1_0"):
            self.assertWrong(text, 0)
            self.assertWrong(text + '\ndeed ("push",)', 0)

    def test_an_empty_line(self):
        self.assertWrong("desk 1\n", 7)
        self.assertWrong(T + "\n", len(T) + 1)
        self.assertWrong("desk 1\n\nundo", 7)
        self.assertWrong("desk 1\n\n", 7)
        self.assertWrong(T.replace("\nclaim", "\n\nclaim"), T.index("claim"))
        self.assertWrong(T.replace("\npaper", "\n\npaper"), T.index("paper"))

    def test_lines_that_are_lacking(self):
        lines = ALL.split("\n")
        for many in range(1, len(lines) + 1):
            text = "\n".join(lines[:many])
            if many in (3, 4, 6, 7, 9, 10, 11, 12, 14, 15, 16, 17, 20, 21):
                self.assertWrong(text, len(text))
                self.assertWrong(text + "\n", len(text) + 1)
            else:
                self.assertTold(text)

    def test_lines_of_no_form(self):
        for line in ("undo ", " undo", "Undo", "undo()", "redo ", "push", 'deed("push",)', 'deed  ("push",)', 'deed ("push",) ', "deed", "deed ",
                     'deed ("push")', "deed push", 'deed ("push",),', 'deed ["push"]', 'deed ("watch",("open",()))', "watch", "watch ",
                     'watch ("open",()) ', 'watch("open",())', "leave", "leave ", 'claim ("open",())', "paper (1,)", "desk 1", "#", "None",
                     'deed ("put",(1, ))', 'deed ("put",(01,))', "deed ('push',)", 'deed ("push",)\r', 'deed "push"', "deed ()", "deed 1"):
            self.assertWrong("desk 1\n" + line, 7)
            self.assertWrong("desk 1\n" + line + "\nundo", 7)
            self.assertWrong(T + "\n" + line, len(T) + 1)

    def test_deeds_that_cannot_be_done_there(self):
        for line in ("undo", "redo", 'deed ("pop",)', 'deed ("put",(2,))', 'deed ("put",(1,-1))', 'deed ("assume",(1,1))', 'deed ("put",1)',
                     'leave ("open",())', 'leave ("count",)', 'watch ("alike",1,2)', 'watch ("left",())', 'watch ("open",(2,))', 'watch "open"'):
            self.assertWrong("desk 1\n" + line, 7)
        for text, line in (('desk 1\ndeed ("push",)\nundo', "undo"), ('desk 1\ndeed ("push",)\ndeed ("pop",)', 'deed ("pop",)'),
                           ('desk 1\ndeed ("push",)\nundo\ndeed ("put",(1,))', "redo"), ('desk 1\ndeed ("push",)\nundo\nredo', "redo"),
                           ('desk 1\ndeed ("push",)', "redo"), ('desk 1\ndeed ("push",)\nundo', 'deed ("pop",)')):
            self.assertTold(text)
            self.assertWrong(text + "\n" + line, len(text) + 1)
            self.assertWrong(text + "\n" + line + "\n", len(text) + 1)

    def test_watched_already_or_not_watched(self):
        self.assertWrong(T + T[6:], len(T) + 1)
        self.assertWrong(T + '\nwatch ("open",())', len(T) + 1)
        left = T + '\nleave ("open",())'
        self.assertTold(left)
        self.assertWrong(left + '\nleave ("open",())', len(left) + 1)
        self.assertTold(left + T[6:])
        self.assertWrong(T + '\nleave ("count",)', len(T) + 1)
        self.assertWrong(T + '\nleave ("open",(1,))', len(T) + 1)

    def test_claims_that_are_not_the_answers(self):
        start = 'desk 1\nwatch ("open",())\n'
        for line in ('claim ("shut",())', 'claim ("open",(1,))', 'claim ("count",2)', 'claim ("open")', "claim", 'claim  ("open",())', "paper (1,)",
                     'claim ("open",()) ', 'Claim ("open",())', 'watch ("open",())', "undo"):
            self.assertWrong(start + line, len(start))
            self.assertWrong(start + line + "\npaper (1,)", len(start))
        start = 'desk 1\nwatch ("count",)\n'
        for line in ('claim ("count",1)', 'claim ("count",02)', 'claim ("count of",(),2)', 'claim ("count",2,)', 'claim ("count",-2)'):
            self.assertWrong(start + line + '\npaper ("free",)', len(start))
        self.assertTold(start + 'claim ("count",2)\npaper ("free",)')

    def test_the_order_of_the_answers(self):
        start = 'desk 1\nwatch ("open",())\nclaim ("open",())\npaper (1,)\nwatch ("count",)\nclaim ("count",2)\npaper ("free",)\ndeed ("push",)\n'
        self.assertTold(start + 'claim ("open",())\npaper (1,)\nclaim ("count",2)\npaper ("free",)')
        self.assertWrong(start + 'claim ("count",2)\npaper ("free",)\nclaim ("open",())\npaper (1,)', len(start))
        wrong = start + 'claim ("open",())\npaper (1,)\n'
        self.assertWrong(wrong + "undo", len(wrong))
        self.assertWrong(wrong + 'claim ("open",())\npaper (1,)', len(wrong))

    def test_papers_that_do_not_hold(self):
        start = 'desk 1\nwatch ("open",())\nclaim ("open",())\n'
        for line in ("paper (2,)", "paper ()", "paper (1,-1)", "paper 1", 'paper (("add",()),)', "paper (1)", "paper", "paper ", "paper  (1,)",
                     "paper (1,) ", "Paper (1,)", 'claim ("open",())', "undo", "paper (0,)", "paper (-0,)", "paper ((1,),)"):
            self.assertWrong(start + line, len(start))
            self.assertWrong(start + line + "\nundo", len(start))
        shut = 'desk 1\ndeed ("put",())\nwatch ("open",())\nclaim ("shut",())\n'
        self.assertTold(shut + 'paper (("add",()),)')
        self.assertTold(shut + 'paper (("drop",()),("add",(1,)),("add",()))'.replace('("drop",()),("add",(1,)),', '("add",(1,)),'))
        for line in ("paper ()", 'paper (("add",(1,)),)', 'paper (("drop",()),)', 'paper (("drop",()),("add",()))', "paper (1,)"):
            self.assertWrong(shut + line, len(shut))

    def test_papers_hold_of_what_is_there_at_their_place(self):
        text = 'desk 1\nwatch ("open",())\nclaim ("open",())\npaper (1,)\ndeed ("assume",(-1,))\nclaim ("open",())\n'
        self.assertWrong(text + "paper (1,)", len(text))
        self.assertTold(text + "paper (-1,)")
        text += 'paper (-1,)\nundo\nclaim ("open",())\n'
        self.assertTold(text + "paper (1,)")
        self.assertTold(text + "paper (-1,)")

    def test_any_string(self):
        for text in ("\u00e9", "\x00", "desk 1\u2028undo", "desk 1\x0bundo", "desk 1\r\nundo", "((((", "a" * 1000, "\n" * 1000):
            self.assertWrong(text, 0)
        self.assertWrong("desk 1\n" + "(" * 5000, 7)
        self.assertWrong("desk 1\ndeed " + "(" * 5000, 7)
        self.assertWrong('desk 1\nwatch ("open",())\nclaim ("open",())\npaper ' + "(" * 100 + ")" * 100, 43)


class TestRelived(HistoryCase):
    def test_papers_are_those_told(self):
        desk = relived(T)
        self.assertSame(desk.deed(("put", (-1,))), ((OPEN, "kept", OPEN),))
        self.assertSame(desk.paper_for(OPEN), (-1,))
        desk = relived(T)
        self.assertSame(desk.deed(("put", (1,))), ((OPEN, "renewed", OPEN),))
        # A desk of its own would have kept the elder paper here.
        text = T + '\ndeed ("push",)\nclaim ("open",())\npaper (1,)'
        desk = self.assertTold(text)
        self.assertSame(desk.deed(("assume", (1,))), ((OPEN, "kept", OPEN),))
        self.assertTold(desk.paper())

    def test_undo_and_redo_go_on(self):
        desk = relived('desk 2\ndeed ("put",(1,))\ndeed ("push",)\ndeed ("put",(2,))\nundo\nundo')
        self.assertSame([desk.done(), desk.formula().clauses, desk.depth()], [(("put", (1,)),), ((1,),), 0])
        desk.redo(), desk.redo()
        self.assertSame([desk.formula().clauses, desk.depth()], [((1,), (2,)), 1])
        self.assertRaises(NothingToUndo, desk.redo)
        desk.undo(), desk.undo(), desk.undo()
        self.assertRaises(NothingToUndo, desk.undo)
        desk = relived('desk 2\ndeed ("put",(1,))\nundo\ndeed ("push",)')
        self.assertRaises(NothingToUndo, desk.redo)

    def test_each_history_relived_and_led_on(self):
        rng = random.Random(801)
        for _ in range(250):
            desk = random_desk(rng)
            text = desk.paper()
            other = self.assertTold(text)
            self.assertIs(same_state(desk, other), True)
            self.assertSame([desk.paper_for(x) for x in desk.watched()], [other.paper_for(x) for x in other.watched()])
            self.assertSame([desk.layers, desk.assumed()], [other.layers, other.assumed()])
            for _ in range(6):
                command = random_command(rng, desk.n)
                self.assertSame(command(desk), command(other))
                self.assertSame(desk.paper(), other.paper())
            self.assertIs(same_state(desk, other), True)
            self.assertTold(desk.paper())

    def test_relived_desks_are_apart(self):
        one, other = relived(T), relived(T)
        one.deed(("put", (1,)))
        self.assertSame([other.done(), other.paper()], [(), T])
        self.assertIs(same_state(one, other), False)


class TestSpoilt(HistoryCase):
    def test_line_by_line(self):
        rng = random.Random(802)
        held = 0
        for _ in range(70):
            lines = random_desk(rng, 8, 2).paper().split("\n")
            other = random_desk(rng, 8, 2).paper().split("\n")
            for k in range(len(lines)):
                swapped = lines[:k] + [lines[k - 1]] + lines[k:k - 1:-1][1:]
                for changed in (lines[:k] + lines[k + 1:], lines[:k] + [lines[k]] + lines[k:], swapped,
                                lines[:k] + [rng.choice(other)] + lines[k + 1:], lines[:k] + [rng.choice(lines)] + lines[k + 1:],
                                lines[:k], lines[:k] + [""] + lines[k:]):
                    held += self.assertAsSlowlyRead("\n".join(changed))
        self.assertGreater(held, 100)

    def test_sign_by_sign(self):
        rng = random.Random(803)
        held = 0
        for _ in range(120):
            text = random_desk(rng, 7, 2).paper()
            for _ in range(12):
                held += self.assertAsSlowlyRead(spoilt(rng, text))
        self.assertGreater(held, 15)

    def test_every_sign_of_one_history(self):
        for at in range(len(ALL)):
            self.assertAsSlowlyRead(ALL[:at] + ALL[at + 1:])
            self.assertAsSlowlyRead(ALL[:at])
            for sign in '1"(\n':
                self.assertAsSlowlyRead(ALL[:at] + sign + ALL[at + 1:])

    def test_other_papers_that_hold(self):
        rng = random.Random(804)
        papers = {}
        for _ in range(300):
            desk = random_desk(rng, 10, 3, 2)
            for question in desk.watched():
                papers.setdefault(slow_text(desk.claim(question)), []).append(slow_text(desk.paper_for(question)))
        others = 0
        for _ in range(150):
            lines = random_desk(rng, 8, 2, 2).paper().split("\n")
            for k, line in enumerate(lines):
                if line[:6] == "claim ":
                    paper = "paper " + rng.choice([x for x in papers.get(line[6:], []) if "paper " + x != lines[k + 1]] or ["()"])
                    text = "\n".join(lines[:k + 1] + [paper] + lines[k + 2:])
                    others += self.assertAsSlowlyRead(text) and paper != lines[k + 1]
        self.assertGreater(others, 15)

    def test_a_text_that_holds_tells_what_is_true(self):
        rng = random.Random(805)
        for _ in range(60):
            text = spoilt(rng, random_desk(rng, 8, 3).paper())
            if paper_holds(text):
                desk = relived(text)
                for question in desk.watched():
                    self.assertIs(claim_holds(desk.here(), desk.claim(question), desk.paper_for(question)), True)


class TestLong(HistoryCase):
    def test_as_many_deeds_as_there_may_be(self):
        rng = random.Random(806)
        desk = Desk(6)
        for question in (OPEN, ("count",), ("fixed",), ("least", (((1, 2), 5), ((-1, -3), 7))),
                         ("met", (("each", (1, 2)), ("some", (3, 4, 5, 6))))):
            desk.watch(question)
        for _ in range(60):
            deed = random_deed(rng, 6)
            if deed != ("pop",) or desk.depth():
                desk.deed(deed)
        text = desk.paper()
        self.assertGreater(len(text), 10000)
        self.assertTold(text)
        self.assertWrong(text[:-1], text.rindex("\n") + 1)

    def test_a_variable_put_in_by_mistake(self):
        # However many variables there are then, what stands in no clause is soon looked at.
        for question in (OPEN, ("count",), ("fixed",), ("least", (((1,), 3),)), ("cores",), ("alike", 1, 2)):
            desk = Desk(2)
            desk.deed(("put", (1, 2)))
            desk.watch(question)
            for number in ("25", "92", "912"):
                text = desk.paper().replace("desk 2", "desk " + number)
                self.assertAsQuick(text, int(number), question)

    def assertAsQuick(self, text, n, question):
        desk = Desk(n)
        desk.deed(("put", (1, 2)))
        claim = desk.watch(question)
        self.assertTold(desk.paper())
        self.assertIs(claim_holds(desk.here(), claim, desk.paper_for(question)), True)
        self.assertIs(paper_holds(text), False)


if __name__ == "__main__":
    unittest.main()
