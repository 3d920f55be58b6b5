"""Points [36] to [39]: the desk, its reports, and the text of its history."""

import random
import unittest

from clausehold.claims import answer_of, claim_holds, paper_of
from clausehold.desk import Desk, same_state
from clausehold.errors import Empty, InvalidNumber, InvalidQuestion, InvalidStep, NothingToUndo
from clausehold.formulas import Formula
from tests.helpers import NO_PARTS, ODD_VALUES, Case, changed_anywhere, listed_anywhere, nested, true_for_one
from tests.slow import SlowDesk, random_deed, random_question, slow_text, slowly_holds, tried_answer

OPEN = ("open", ())
COUNT = ("count",)
NO_DEEDS = (
    None, 0, 1, True, "", "push", "pop", "undo", (), [], ["push"], [("push",)], (("push",),), ("push", ()), ("push", 1), ("pop", ()),
    ("put",), ("put", (), ()), ("put", 1), ("put", None), ("put", [1]), ("put", []), ("put", (2, 1)), ("put", (1, 1)),
    ("put", (1, -1)), ("put", (3,)), ("put", (-3,)), ("put", (0,)), ("put", (True,)), ("put", ("1",)), ("put", ((1,),)), ("assume",),
    ("assume", (2, 1)), ("assume", [1]), ("assume", (1, -1)), ("assume", (3,)), ("assume", (True,)), ("assume", (), ()),
    ("assume", None), ("Put", (1,)), ("PUSH",), ("undo",), ("redo",), ("watch", OPEN), ("drop", (1,)), ("add", (1,)), ("put", (1,), (2,)),
    (None,), (True,), (1,), ((),), (["push"],), (["put"], (1,)), (None, (1,)), (1, (1,)), Formula(2, ()), (Formula(2, ()),),
    ("put", Formula(2, ())), nested(30), nested(30, list), ("put", nested(29)), ("", ()), ("push ",),
)


def state(desk):
    """All that can be seen of a desk."""
    return repr((desk.formula().n, desk.formula().clauses, desk.depth(), desk.assumed(), desk.here().clauses, desk.done(),
                 desk.watched(), [(desk.claim(x), desk.paper_for(x)) for x in desk.watched()], desk.paper()))


def led(n, *deeds):
    desk = Desk(n)
    for deed in deeds:
        desk.deed(deed)
    return desk


class DeskCase(Case):
    def assertRefused(self, error, kept, desk, name, *arguments):
        """The call raises this error, and changes nothing, nor what can be undone and done again."""
        before = state(desk)
        self.assertRaisesWith(error, kept, getattr(desk, name), *arguments)
        self.assertEqual(state(desk), before)


class TestDesk(DeskCase):
    def test_a_new_desk(self):
        for n in (0, 1, 2, 10, 10 ** 12):
            desk = Desk(n)
            self.assertEqual((desk.formula(), desk.here()), (Formula(n, ()), Formula(n, ())))
            self.assertSame([desk.depth(), desk.assumed(), desk.done(), desk.watched(), desk.paper()],
                            [0, (), (), (), f"desk {n}"])
        self.assertEqual(Desk(n=3).formula(), Formula(3, ()))

    def test_wrong_numbers(self):
        for wrong in (-1, None, True, False, "1", (), (1,), [1], Formula(1, ()), nested(30)):
            self.assertRaisesWith(InvalidNumber, {"value": wrong}, Desk, wrong)
            self.assertRaisesWith(InvalidNumber, {"value": wrong}, Desk, n=wrong)

    def test_layers_clause_by_clause(self):
        desk = Desk(3)
        self.assertSame([desk.deed(("put", (1, 2))), desk.deed(deed=("push",)), desk.deed(("put", (-1,)))], [(), (), ()])
        self.assertSame((desk.formula().n, desk.formula().clauses, desk.depth()), (3, ((1, 2), (-1,)), 1))
        desk.deed(("push",)), desk.deed(("put", (3,))), desk.deed(("put", (3,))), desk.deed(("put", ()))
        self.assertSame((desk.formula().clauses, desk.depth()), (((1, 2), (-1,), (3,), (3,), ()), 2))
        desk.deed(("pop",))
        self.assertSame((desk.formula().clauses, desk.depth()), (((1, 2), (-1,)), 1))
        desk.deed(("put", (-3,))), desk.deed(("pop",))
        self.assertSame((desk.formula().clauses, desk.depth()), (((1, 2),), 0))
        desk.deed(("push",)), desk.deed(("pop",)), desk.deed(("put", (2,)))
        self.assertSame((desk.formula().clauses, desk.depth()), (((1, 2), (2,)), 0))

    def test_what_is_assumed(self):
        desk = led(3, ("put", (1, 2)), ("assume", (-1, 3)))
        self.assertSame([desk.assumed(), desk.formula().clauses, desk.here().clauses], [(-1, 3), ((1, 2),), ((1, 2), (-1,), (3,))])
        desk.deed(("push",)), desk.deed(("assume", (2,)))
        self.assertSame([desk.assumed(), desk.here().clauses], [(2,), ((1, 2), (2,))])
        desk.deed(("pop",))
        self.assertSame(desk.assumed(), (2,))
        desk.deed(("assume", ()))
        self.assertSame([desk.assumed(), desk.here().clauses], [(), ((1, 2),)])

    def test_kinds(self):
        desk = led(2, ("put", (1,)), ("assume", (2,)))
        self.assertIs(desk.formula().__class__, Formula)
        self.assertIs(desk.here().__class__, Formula)
        with self.assertRaises(TypeError):
            iter(desk)
        desk.watch(OPEN)
        self.assertSame([desk.watched(), desk.done()], [(OPEN,), (("put", (1,)), ("assume", (2,)))])

    def test_deeds_that_are_none(self):
        desk = led(2, ("put", (1,)), ("push",), ("put", (2,)))
        desk.watch(OPEN)
        desk.undo()
        for wrong in NO_DEEDS:
            self.assertRefused(InvalidStep, {"step": wrong}, desk, "deed", wrong)
        for odd in ODD_VALUES:
            if odd != ("push",):
                self.assertRefused(InvalidStep, {"step": odd}, desk, "deed", odd)
        for deed in (("put", (1, -2)), ("assume", (-1,)), ("push",), ("pop",)):
            for other in list(listed_anywhere(deed)) + list(true_for_one(deed)):
                self.assertRefused(InvalidStep, {"step": other}, desk, "deed", other)
            for put in NO_PARTS:
                for other in changed_anywhere(deed, put):
                    self.assertRefused(InvalidStep, {"step": other}, desk, "deed", other)
        self.assertRaisesWith(InvalidStep, {"step": ("put", (1,))}, Desk(0).deed, deed=("put", (1,)))
        # What was undone can still be done again.
        desk.redo()
        self.assertSame(desk.done(), (("put", (1,)), ("push",), ("put", (2,))))

    def test_pop_with_no_layer(self):
        desk = Desk(2)
        self.assertRefused(Empty, {"what": "layer"}, desk, "deed", ("pop",))
        desk = led(2, ("put", (1,)), ("push",), ("pop",))
        self.assertRefused(Empty, {"what": "layer"}, desk, "deed", ("pop",))
        desk = led(2, ("push",))
        desk.undo()
        self.assertRefused(Empty, {"what": "layer"}, desk, "deed", ("pop",))
        self.assertRefused(InvalidStep, {"step": ("pop", ())}, desk, "deed", ("pop", ()))
        desk.redo()
        self.assertSame([desk.depth(), desk.done()], [1, (("push",),)])
        desk.deed(("pop",))
        self.assertSame(desk.depth(), 0)


class TestUndo(DeskCase):
    def test_undo_and_redo(self):
        desk = led(2, ("put", (1,)), ("push",), ("put", (2,)), ("assume", (-1,)), ("pop",))
        seen = [(((1,), (2,)), 1, (-1,)), (((1,), (2,)), 1, ()), (((1,),), 1, ()), (((1,),), 0, ()), ((), 0, ())]
        for clauses, depth, assumed in seen:
            self.assertSame(desk.undo(), ())
            self.assertSame((desk.formula().clauses, desk.depth(), desk.assumed()), (clauses, depth, assumed))
        self.assertRefused(NothingToUndo, {"deed": "undo"}, desk, "undo")
        for clauses, depth, assumed in list(reversed(seen[:-1])) + [(((1,),), 0, (-1,))]:
            self.assertSame(desk.redo(), ())
            self.assertSame((desk.formula().clauses, desk.depth(), desk.assumed()), (clauses, depth, assumed))
        self.assertRefused(NothingToUndo, {"deed": "redo"}, desk, "redo")

    def test_nothing_is_left(self):
        desk = Desk(1)
        self.assertRefused(NothingToUndo, {"deed": "undo"}, desk, "undo")
        self.assertRefused(NothingToUndo, {"deed": "redo"}, desk, "redo")
        desk.watch(OPEN)
        self.assertRefused(NothingToUndo, {"deed": "undo"}, desk, "undo")

    def test_redo_behind_an_undo_and_another_deed(self):
        desk = led(2, ("put", (1,)), ("put", (2,)))
        desk.undo(), desk.undo()
        desk.deed(("put", (-1,)))
        self.assertRefused(NothingToUndo, {"deed": "redo"}, desk, "redo")
        desk.undo()
        desk.redo()
        self.assertSame(desk.done(), (("put", (-1,)),))
        self.assertRefused(NothingToUndo, {"deed": "redo"}, desk, "redo")

    def test_a_deed_that_changes_nothing_is_one(self):
        desk = led(2, ("put", (1,)))
        desk.undo()
        desk.deed(("assume", ()))
        self.assertRefused(NothingToUndo, {"deed": "redo"}, desk, "redo")
        self.assertSame(desk.done(), (("assume", ()),))
        desk.undo()
        self.assertSame(desk.done(), ())

    def test_redo_behind_a_deed_that_raised_an_error(self):
        for wrong, error, kept in ((("pop",), Empty, {"what": "layer"}), (("put", (9,)), InvalidStep, {"step": ("put", (9,))})):
            desk = led(2, ("put", (1,)), ("put", (2,)))
            desk.undo(), desk.undo()
            self.assertRefused(error, kept, desk, "deed", wrong)
            desk.redo()
            self.assertRefused(error, kept, desk, "deed", wrong)
            desk.redo()
            self.assertSame(desk.formula().clauses, ((1,), (2,)))

    def test_partly_done_again(self):
        desk = led(3, ("put", (1,)), ("put", (2,)), ("put", (3,)))
        desk.undo(), desk.undo(), desk.redo(), desk.undo(), desk.undo()
        self.assertSame(desk.done(), ())
        desk.redo(), desk.redo(), desk.redo()
        self.assertSame(desk.done(), (("put", (1,)), ("put", (2,)), ("put", (3,))))

    def test_watching_and_leaving_are_no_deeds(self):
        desk = led(2, ("put", (1,)), ("put", (2,)))
        desk.undo()
        desk.watch(OPEN), desk.watch(COUNT), desk.leave(OPEN)
        self.assertSame(desk.done(), (("put", (1,)),))
        self.assertSame(desk.redo(), ((COUNT, "changed", ("count", 1)),))
        desk.undo(), desk.undo()
        self.assertSame(desk.watched(), (COUNT,))
        desk.redo()
        self.assertSame(desk.watched(), (COUNT,))


class TestWatch(DeskCase):
    def test_reports(self):
        desk = led(2, ("put", (1, 2)))
        self.assertSame(desk.watch(OPEN), OPEN)
        self.assertSame(desk.deed(("push",)), ((OPEN, "kept", OPEN),))
        self.assertSame(desk.deed(("assume", (-1, -2))), ((OPEN, "changed", ("shut", ())),))
        self.assertSame(desk.undo(), ((OPEN, "changed", OPEN),))
        self.assertSame(desk.redo(), ((OPEN, "changed", ("shut", ())),))
        self.assertSame(desk.watch(question=COUNT), ("count", 0))
        self.assertSame(desk.deed(("put", (1,))), ((OPEN, "kept", ("shut", ())), (COUNT, "kept", ("count", 0))))

    def test_kept_renewed_changed(self):
        desk = Desk(1)
        desk.watch(OPEN)
        elder = desk.paper_for(OPEN)
        self.assertSame(elder, (1,))
        self.assertSame(desk.deed(("put", (1,))), ((OPEN, "kept", OPEN),))
        self.assertSame(desk.paper_for(OPEN), elder)
        desk.undo()
        self.assertSame(desk.deed(("put", (-1,))), ((OPEN, "renewed", OPEN),))
        self.assertSame(desk.paper_for(OPEN), (-1,))
        # The new paper is kept where it holds, though the elder one would hold again.
        self.assertSame(desk.undo(), ((OPEN, "kept", OPEN),))
        self.assertSame(desk.paper_for(OPEN), (-1,))
        self.assertSame(desk.redo(), ((OPEN, "kept", OPEN),))
        self.assertSame(desk.deed(("assume", (1,))), ((OPEN, "changed", ("shut", ())),))
        self.assertSame(desk.paper_for(OPEN), (("add", ()),))
        self.assertSame(desk.deed(("push",)), ((OPEN, "kept", ("shut", ())),))
        self.assertSame(desk.undo(), ((OPEN, "kept", ("shut", ())),))
        self.assertSame(desk.undo(), ((OPEN, "changed", OPEN),))

    def test_no_questions(self):
        desk = Desk(2)
        self.assertSame([desk.deed(("put", (1,))), desk.undo(), desk.redo()], [(), (), ()])
        desk.watch(OPEN), desk.leave(OPEN)
        self.assertSame([desk.deed(("put", (1,))), desk.undo(), desk.redo()], [(), (), ()])

    def test_the_order_of_questions(self):
        desk = Desk(2)
        for question in (COUNT, OPEN, ("cores",)):
            desk.watch(question)
        self.assertSame(desk.watched(), (COUNT, OPEN, ("cores",)))
        self.assertIsNone(desk.leave(question=COUNT))
        self.assertSame(desk.watched(), (OPEN, ("cores",)))
        desk.watch(COUNT)
        self.assertSame(desk.watched(), (OPEN, ("cores",), COUNT))
        self.assertSame([triple[0] for triple in desk.deed(("push",))], [OPEN, ("cores",), COUNT])

    def test_watched_twice(self):
        desk = led(1, ("put", (1,)))
        self.assertSame(desk.watch(COUNT), ("count", 1))
        before = state(desk)
        self.assertSame(desk.watch(COUNT), ("count", 1))
        self.assertEqual(state(desk), before)
        desk.undo()
        self.assertSame(desk.watch(COUNT), ("count", 2))
        self.assertSame(desk.watched(), (COUNT,))

    def test_watching_again_takes_no_elder_paper(self):
        desk = Desk(1)
        desk.watch(OPEN)
        desk.deed(("put", (-1,)))
        desk.undo()
        self.assertSame(desk.paper_for(OPEN), (-1,))
        desk.watch(OPEN)
        self.assertSame(desk.paper_for(OPEN), (-1,))
        desk.leave(OPEN)
        desk.watch(OPEN)
        self.assertSame(desk.paper_for(OPEN), paper_of(Formula(1, ()), OPEN))

    def test_claims_and_papers(self):
        desk = led(3, ("put", (1, 2)), ("put", (-1, 3)), ("assume", (-2,)))
        for question in (OPEN, ("open", (-3,)), ("reasons", (-3,)), ("fixed",), ("alike", 1, 3), ("cores",), COUNT, ("count of", (2,)),
                         ("least", (((-1,), 4),)), ("met", (("each", (1,)), ("some", (2, 3))))):
            claim = desk.watch(question)
            self.assertSame(claim, tried_answer(desk.here(), question))
            self.assertSame([desk.claim(question), desk.claim(question=question)], [claim, claim])
            self.assertSame(claim, answer_of(desk.here(), question))
            self.assertIs(claim_holds(desk.here(), claim, desk.paper_for(question)), True)
            self.assertSame(desk.paper_for(question=question), desk.paper_for(question))

    def test_questions_that_are_none_or_not_watched(self):
        desk = Desk(2)
        desk.watch(("open", (1,))), desk.watch(("alike", 1, 2)), desk.watch(("least", (((1,), 1),)))
        wrong = [None, 1, True, "", "open", (), [], ["open", (1,)], ("open",), ("open", [1]), ("open", (True,)), ("open", (3,)),
                 ("alike", True, 2), ("alike", 1, 1), ("least", (((1,), True),)), ("least", [((1,), 1)]), ("left", ()), ("shut", (1,)),
                 ("met", ()), ("open", (2, 1)), Formula(2, ()), (Formula(2, ()),), nested(30), nested(30, list), (["open"], (1,))]
        for question in wrong:
            for name in ("watch", "leave", "claim", "paper_for"):
                self.assertRefused(InvalidQuestion, {"value": question}, desk, name, question)
        for question in (OPEN, COUNT, ("open", (2,)), ("alike", 2, 1), ("alike", 1, -2), ("least", ()), ("reasons", (1,))):
            for name in ("leave", "claim", "paper_for"):
                self.assertRefused(InvalidQuestion, {"value": question}, desk, name, question)
        for odd in ODD_VALUES:
            for name in ("leave", "claim", "paper_for"):
                self.assertRefused(InvalidQuestion, {"value": odd}, desk, name, odd)
        desk.leave(("alike", 1, 2))
        for name in ("leave", "claim", "paper_for"):
            self.assertRefused(InvalidQuestion, {"value": ("alike", 1, 2)}, desk, name, ("alike", 1, 2))

    def test_what_is_asked_changes_nothing(self):
        desk = led(2, ("put", (1,)), ("assume", (-2,)))
        desk.watch(OPEN)
        before = state(desk)
        self.assertEqual(state(desk), before)
        desk.here().with_clause((2,))
        self.assertEqual(state(desk), before)


class TestPaper(DeskCase):
    def test_texts(self):
        desk = Desk(1)
        self.assertSame(desk.paper(), "desk 1")
        desk.deed(("put", (1,))), desk.undo()
        self.assertSame(desk.paper(), 'desk 1\ndeed ("put",(1,))\nundo')
        desk.watch(OPEN)
        self.assertSame(desk.paper(), 'desk 1\ndeed ("put",(1,))\nundo\nwatch ("open",())\nclaim ("open",())\npaper (1,)')
        desk.redo()
        ahead = desk.paper()
        self.assertTrue(ahead.endswith('paper (1,)\nredo\nclaim ("open",())\npaper (1,)'))
        desk.leave(OPEN)
        self.assertSame(desk.paper(), ahead + '\nleave ("open",())')
        desk.deed(("push",))
        self.assertSame(desk.paper(), ahead + '\nleave ("open",())\ndeed ("push",)')

    def test_what_is_left_out(self):
        desk = Desk(1)
        desk.watch(COUNT)
        text = desk.paper()
        desk.watch(COUNT)
        self.assertSame(desk.paper(), text)
        for name, argument in (("deed", ("pop",)), ("deed", None), ("leave", OPEN), ("watch", None)):
            with self.assertRaises(ValueError):
                getattr(desk, name)(argument)
        for name in ("undo", "redo"):
            self.assertRaises(NothingToUndo, getattr(desk, name))
        self.assertSame(desk.paper(), text)

    def test_an_elder_answer_stays_as_it_was_told(self):
        desk = Desk(1)
        desk.watch(COUNT), desk.watch(OPEN)
        desk.deed(("put", (-1,)))
        self.assertSame(desk.paper(), "\n".join((
            "desk 1", 'watch ("count",)', 'claim ("count",2)', 'paper ("free",)', 'watch ("open",())', 'claim ("open",())',
            "paper (1,)", 'deed ("put",(-1,))', 'claim ("count",1)', "paper " + slow_text(desk.paper_for(COUNT)), 'claim ("open",())',
            "paper (-1,)")))


class TestSameState(DeskCase):
    def test_same(self):
        self.assertIs(same_state(Desk(1), Desk(1)), True)
        self.assertIs(same_state(one=Desk(0), other=Desk(0)), True)
        one, other = led(2, ("put", (1,)), ("push",)), led(2, ("put", (1,)))
        self.assertIs(same_state(one, other), False)
        other.deed(("push",))
        self.assertIs(same_state(one, other), True)
        self.assertIs(same_state(one, one), True)

    def test_each_difference(self):
        base = (("put", (1,)), ("push",), ("put", (2,)), ("assume", (1,)))
        self.assertIs(same_state(led(2, *base), led(2, *base)), True)
        self.assertIs(same_state(led(2, *base), led(3, *base)), False)
        self.assertIs(same_state(Desk(1), Desk(2)), False)
        for deeds in ((("put", (1,)), ("put", (2,)), ("push",), ("assume", (1,))), base[:3], base + (("assume", (1,)),),
                      base[:3] + (("assume", (2,)),), (("put", (2,)), ("push",), ("put", (1,)), ("assume", (1,)))):
            self.assertIs(same_state(led(2, *base), led(2, *deeds)), False)
            self.assertIs(same_state(led(2, *deeds), led(2, *base)), False)

    def test_the_layers_count_and_the_deeds_done(self):
        one = led(2, ("put", (1,)), ("push",))
        other = led(2, ("push",), ("put", (1,)))
        self.assertEqual(one.formula(), other.formula())
        self.assertIs(same_state(one, other), False)
        one, other = led(1, ("push",), ("pop",)), Desk(1)
        self.assertIs(same_state(one, other), False)
        one.undo(), one.undo()
        self.assertIs(same_state(one, other), True)

    def test_questions_in_order_and_claims_but_no_papers(self):
        one, other = Desk(1), Desk(1)
        one.watch(OPEN)
        self.assertIs(same_state(one, other), False)
        other.watch(OPEN)
        self.assertIs(same_state(one, other), True)
        one.watch(COUNT)
        other.leave(OPEN), other.watch(COUNT), other.watch(OPEN)
        self.assertIs(same_state(one, other), False)
        one.leave(OPEN), one.watch(OPEN)
        self.assertIs(same_state(one, other), True)
        one.deed(("put", (-1,))), one.undo()
        self.assertNotEqual(one.paper_for(OPEN), other.paper_for(OPEN))
        self.assertIs(same_state(one, other), True)
        one.deed(("assume", (-1,))), other.deed(("assume", (1,)))
        self.assertIs(same_state(one, other), False)


class TestLed(DeskCase):
    """Desks led through drawn rows of commands, beside a slow keeping of layers."""

    def test_many_rows(self):
        rng = random.Random(701)
        words = {"kept": 0, "renewed": 0, "changed": 0}
        for _ in range(500):
            n = rng.randint(0, 3)
            desk, slow = Desk(n), SlowDesk(n)
            for _ in range(rng.randint(1, 25)):
                self.step(rng, desk, slow, words)
                self.assertSeen(desk, slow)
        self.assertGreater(min(words.values()), 100, words)

    def step(self, rng, desk, slow, words):
        watched = [question for question, _, _ in slow.answers]
        kind = rng.random()
        if kind < 0.18 and len(watched) < 4:
            question = random_question(rng, slow.n)
            claim = tried_answer(slow.here(), question)
            self.assertSame(desk.watch(question), claim)
            if question not in watched:
                paper = desk.paper_for(question)
                self.assertTrue(slowly_holds(slow.here(), claim, paper))
                slow.lines += ["watch " + slow_text(question), "claim " + slow_text(claim), "paper " + slow_text(paper)]
                slow.answers = slow.answers + [(question, claim, paper)]
        elif kind < 0.25 and watched:
            question = rng.choice(watched)
            self.assertIsNone(desk.leave(question))
            slow.answers = [answer for answer in slow.answers if answer[0] != question]
            slow.lines.append("leave " + slow_text(question))
        elif kind < 0.3:
            self.assertRefused(InvalidStep, {"step": ("put", (0,))}, desk, "deed", ("put", (0,)))
        else:
            deed = rng.choice(("undo", "undo", "redo") + (random_deed(rng, slow.n),) * 4)
            self.change(desk, slow, deed, words)

    def change(self, desk, slow, deed, words):
        if not slow.take(deed):
            if deed == ("pop",):
                self.assertRefused(Empty, {"what": "layer"}, desk, "deed", deed)
            else:
                self.assertRefused(NothingToUndo, {"deed": deed}, desk, deed)
            return
        report = getattr(desk, deed)() if deed in ("undo", "redo") else desk.deed(deed)
        answers, expected = [], []
        for question, claim, paper in slow.answers:
            now = tried_answer(slow.here(), question)
            word = "changed" if now != claim else "kept" if slowly_holds(slow.here(), now, paper) else "renewed"
            words[word] += 1
            have = desk.paper_for(question)
            if word == "kept":
                self.assertSame(have, paper)
            self.assertTrue(slowly_holds(slow.here(), now, have))
            expected.append((question, word, now))
            answers.append((question, now, have))
        self.assertSame(report, tuple(expected))
        slow.tell(deed if deed in ("undo", "redo") else "deed " + slow_text(deed), answers)

    def assertSeen(self, desk, slow):
        clauses = tuple(clause for layer in slow.layers for clause in layer)
        self.assertSame((desk.formula().n, desk.formula().clauses), (slow.n, clauses))
        self.assertEqual(desk.here(), slow.here())
        self.assertSame([desk.depth(), desk.assumed(), desk.done(), desk.watched()],
                        [len(slow.layers) - 1, slow.row, tuple(deed for deed, _, _ in slow.past),
                         tuple(question for question, _, _ in slow.answers)])
        for question, claim, paper in slow.answers:
            self.assertSame([desk.claim(question), desk.paper_for(question)], [claim, paper])
        self.assertSame(desk.paper(), "\n".join(slow.lines))

    def test_what_is_asked_anew_is_told_alike(self):
        rng = random.Random(702)
        for _ in range(40):
            n = rng.randint(1, 4)
            desk = Desk(n)
            questions = [random_question(rng, n) for _ in range(3)]
            for question in questions:
                desk.watch(question)
            for _ in range(15):
                deed = random_deed(rng, n)
                if deed != ("pop",) or desk.depth():
                    desk.deed(deed)
                if rng.random() < 0.3 and desk.done():
                    desk.undo()
            for question in questions:
                self.assertSame(desk.claim(question), tried_answer(desk.here(), question))

    def test_as_many_deeds_as_there_may_be(self):
        rng = random.Random(703)
        desk = Desk(10)
        for question in (OPEN, COUNT, ("fixed",), ("open", (1, -2)), ("count of", (1, 2, 3)), ("met", (("each", (1, 2)), ("some", tuple(range(3, 11)))))):
            desk.watch(question)
        for _ in range(60):
            deed = random_deed(rng, 10)
            if deed != ("pop",) or desk.depth():
                report = desk.deed(deed)
                self.assertEqual(len(report), 6)
        for question in desk.watched():
            self.assertSame(desk.claim(question), answer_of(desk.here(), question))
            self.assertIs(claim_holds(desk.here(), desk.claim(question), desk.paper_for(question)), True)


if __name__ == "__main__":
    unittest.main()
