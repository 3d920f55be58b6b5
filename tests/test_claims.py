"""Points [33] and [34]: questions, claims, their answers and papers, and claims refuted."""

import random
import unittest

from clausehold.claims import answer_of, claim_holds, is_claim, is_question, paper_of, refute
from clausehold.counting import count_of_paper, count_paper
from clausehold.cores import core_paper, release_paper
from clausehold.errors import InvalidClaim, InvalidQuestion
from clausehold.fixed import alike_paper, fixed_paper
from clausehold.formulas import Formula
from clausehold.models import first_model
from clausehold.prefixes import met_paper
from clausehold.reasons import reasons_paper
from clausehold.solving import open_paper
from clausehold.wishes import least_paper
from tests.helpers import (
    NO_PARTS, ODD_VALUES, Case, changed_anywhere, listed_anywhere, nested, random_formulas, random_row, shut_formulas,
    tried_models, true_for_one,
)
from tests.slow import (
    CLAIM_KINDS, QUESTION_KINDS, asked_by, may_answer, random_claim, random_question, slowly_holds, tried_answer,
    tried_truth,
)
from tests.test_cores import tried_cores, tried_releases

F = Formula(3, ((1, 2), (-1, 3), (-2, -3)))
G = Formula(1, ((1,), (-1,)))
END = (("add", ()),)
W = (((1,), 3), ((2, -3), 5))
P = (("each", (2,)), ("some", (1, 3)))
# A question of each kind for three variables.
QUESTIONS = (
    ("open", ()), ("open", (1, -3)), ("reasons", (-2,)), ("reasons", ()), ("fixed",), ("alike", 1, -3), ("alike", -2, 1),
    ("cores",), ("count",), ("count of", ()), ("count of", (1, 3)), ("least", ()), ("least", W), ("met", P),
)
NO_QUESTIONS = (
    None, 0, 1, True, False, "", "open", "count", (), [], ((),), [("count",)], ["count"], ["open", ()], (("count",),),
    ("open",), ("open", (), ()), ("open", ((),)), ("open", 1), ("open", None), ("open", "1"), ("open", (2, 1)), ("open", (1, 1)),
    ("open", (1, -1)), ("open", (4,)), ("open", (-4,)), ("open", (0,)), ("open", [1]), ("open", []),
    ("open", (True,)), ("open", (None,)), ("open", ("1",)), ("open", ((1,),)), ("reasons",), ("reasons", (), ()),
    ("reasons", [1]), ("reasons", (3, 1)), ("reasons", (True,)), ("reasons", (4,)), ("fixed", ()), ("fixed", (1,)), ("alike",),
    ("alike", 1), ("alike", 1, 1), ("alike", 1, -1), ("alike", 1, 4), ("alike", -4, 1), ("alike", 0, 1), ("alike", 1, 2, 3),
    ("alike", (1, 2)), ("alike", True, 2), ("alike", 2, True), ("alike", "1", 2), ("alike", None, 2), ("alike", [1], 2),
    ("alike", (1,), (2,)), ("unlike", 1, 2), ("cores", ()), ("cores", (), ()), ("core", ()), ("release", ()), ("count", 1),
    ("count", ()), ("count of",), ("count of", 1), ("count of", [1]), ("count of", []), ("count of", (2, 1)), ("count of", (1, 1)),
    ("count of", (-1,)), ("count of", (1, -2)), ("count of", (0,)), ("count of", (4,)), ("count of", (True,)), ("count of", None),
    ("count of", (), 1), ("least",), ("least", (((1,), 0),)), ("least", (((1,), -1),)), ("least", (((1,), True),)),
    ("least", (((4,), 1),)), ("least", (((2, 1), 1),)), ("least", (([1], 1),)), ("least", [((1,), 1)]), ("least", ([(1,), 1],)),
    ("least", ((1, 1),)), ("least", (((1,),),)), ("least", (((1,), 1, 1),)), ("least", None), ("least", W, 3), ("met",),
    ("met", ()), ("met", (("each", (1, 2)),)), ("met", (("each", (1, 2, 3, 4)),)), ("met", (("all", (1, 2, 3)),)),
    ("met", (("each", [1, 2, 3]),)), ("met", [("each", (1, 2, 3))]), ("met", (["each", (1, 2, 3)],)), ("met", P, P), ("met", None),
    ("met", (("each", (1, 2)), ("some", (2, 3)))), ("met", (("each", (True, 2, 3)),)), ("missed", P), ("shut", ()), ("left", ()),
    ("Open", ()), ("OPEN", ()), ("open ", ()), ("countof", (1,)), ("count  of", (1,)), (("open", ()),), (1, ()), (None, ()),
    ((), ()), (["open"], ()), (True,), F, (F,), ("open", F), ("alike", F, 1), ("least", F), ("met", F), ("least", (F,)),
    nested(30), nested(30, list), ("open", nested(29)), ("between", ()), ("broken", (), "open"), ("word",), ("", ()),
)
# A claim of each kind for three variables, true or not.
CLAIMS = (
    ("open", ()), ("open", (1, -3)), ("shut", ()), ("shut", (-1, -2, 3)), ("reasons", (1, 2), (1,)), ("reasons", (1,), (-2, 3)),
    ("reasons", (), ()), ("fixed", ()), ("fixed", (-3,)), ("alike", 1, 3), ("alike", -3, 2), ("unlike", 2, -1), ("core", ()),
    ("core", (0, 2)), ("core", (5, 10 ** 12)), ("release", ()), ("release", (3,)), ("release", (0, 1, 99)), ("cores", (), ((),)),
    ("cores", (), ()), ("cores", ((),), ()), ("cores", ((0,), (1,), (0, 1), (0, 2), (1, 2, 3)), ((4,),)), ("cores", ((9, 10 ** 15),), ((),)),
    ("count", 0), ("count", 10 ** 15), ("count of", (), 0), ("count of", (1, 3), 7), ("least", (), 0), ("least", W, 3),
    ("least", W, 10 ** 6), ("met", P), ("missed", P),
)
NO_CLAIMS = (
    None, 0, True, "", "open", (), [], ((),), ["open", ()], [("open", ())], ("open",), ("open", (), ()), ("open", [1]), ("open", (2, 1)),
    ("open", (4,)), ("open", (True,)), ("open", 1), ("shut",), ("shut", (1, -1)), ("shut", (), ()), ("shut", []), ("shut", None),
    ("shut", (0,)), ("reasons", ()), ("reasons", (), (), ()), ("reasons", (1,), [1]), ("reasons", (1,), (4,)), ("reasons", (4,), ()),
    ("reasons", (1,), (2, 1)), ("reasons", [], ()), ("reasons", (1,), None), ("reasons", (True,), ()), ("reasons", (1,), (True,)),
    ("fixed",), ("fixed", (), ()), ("fixed", (4,)), ("fixed", [1]), ("fixed", (3, 1)), ("fixed", (True,)), ("alike", 1), ("alike", 1, 1),
    ("alike", 1, -1), ("alike", 0, 1), ("alike", 1, 4), ("alike", True, 2), ("unlike", 2, 2), ("unlike", 2, -2), ("unlike", 1, True),
    ("unlike", 1, 2, 3), ("unlike", "1", 2), ("core",), ("core", 0), ("core", (1, 0)), ("core", (0, 0)), ("core", (-1,)), ("core", [0]),
    ("core", (True,)), ("core", (0, True)), ("core", ("0",)), ("core", (), ()), ("core", ((0,),)), ("core", (None,)), ("release",),
    ("release", (2, 1)), ("release", (-1, 0)), ("release", (False,)), ("release", [0, 1]), ("release", None), ("cores",), ("cores", ()),
    ("cores", (), (), ()), ("cores", [], ()), ("cores", (), []), ("cores", ([0],), ()), ("cores", ((0,), [1]), ()), ("cores", ((0,), (0,)), ()),
    ("cores", ((1,), (0,)), ()), ("cores", ((0, 1), (2,)), ()), ("cores", (), ((0, 2), (0, 1))), ("cores", (), ((), ())),
    ("cores", ((1, 0),), ()), ("cores", ((-1,),), ()), ("cores", ((0, 0),), ()), ("cores", ((True,),), ()), ("cores", (0,), ()),
    ("cores", ((0, 1, 2), (0, 1)), ()), ("cores", None, ()), ("cores", (), None), ("cores", (None,), ()), ("cores", (), (("0",),)),
    ("count",), ("count", -1), ("count", True), ("count", None), ("count", "1"), ("count", (1,)), ("count", 1, 1), ("count of", ()),
    ("count of", (), -1), ("count of", (), True), ("count of", (2, 1), 1), ("count of", [1], 1), ("count of", (4,), 1), ("count of", (-1,), 1),
    ("count of", (1,), None), ("count of", (1,), 1, 1), ("least", ()), ("least", (), -1), ("least", (), True), ("least", [], 0),
    ("least", (((1,), 0),), 0), ("least", (((4,), 1),), 0), ("least", W), ("least", W, None), ("least", W, (3,)), ("met",), ("met", ()),
    ("met", (("each", (1, 2)),)), ("missed", ()), ("missed", (("some", [1, 2, 3]),)), ("met", P, ()), ("missed", [P]), ("missed", None),
    ("left", ()), ("left", ((1,),)), ("between", ()), ("between", ((1,),)), ("broken", (), "open"), ("broken", ((1, 2, 3),), "shut"),
    ("Open", ()), ("open ", ()), ("", ()), (("open", ()),), (1, ()), (["open"], ()), (None, ()), F, (F,), ("open", F), ("count", F),
    ("core", F), ("cores", F, ()), nested(30), nested(30, list), ("open", nested(29)), ("word", ()), ("reasons", F, F),
)
# Papers of every kind, for the formula F.
PAPERS = (
    open_paper(F, ()), open_paper(F, (1, 2)), reasons_paper(F, (1, 2)), fixed_paper(F), alike_paper(F, 1, 3), alike_paper(F, 1, 2),
    ((), ((1, -2, 3), (-1, 2, -3))), count_paper(F), count_of_paper(F, (1, 3)), least_paper(F, W), met_paper(F, P), (), END, (END, END),
    (END, ()), ((), ()), ((1, -2, 3), ()), ((), ((1, -2, 3),)), ("free",), ("shut", END), ("open", (1, -2, 3)),
)


class TestIsQuestion(Case):
    def test_each_kind(self):
        self.assertSame([is_question(('open', (1,)), 2), is_question(value=('least', ()), n=2)], [True, True])
        self.assertEqual({question[0] for question in QUESTIONS}, set(QUESTION_KINDS))
        for question in QUESTIONS:
            self.assertIs(is_question(question, 3), True)

    def test_variables_too_great(self):
        for question in (("open", (3,)), ("reasons", (1, -3)), ("alike", 3, 1), ("alike", 1, -3), ("count of", (3,)),
                         ("least", (((-3,), 1),)), ("met", P)):
            self.assertIs(is_question(question, 3), True)
            for n in (0, 1, 2):
                self.assertIs(is_question(question, n), False)
        self.assertIs(is_question(("met", P), 4), False)
        self.assertIs(is_question(("met", P), 10 ** 12), False)
        for question in (("open", (3,)), ("reasons", (1, -3)), ("alike", 3, 1), ("count of", (3,)), ("least", (((-3,), 1),))):
            self.assertIs(is_question(question, 4), True)
            self.assertIs(is_question(question, 10 ** 12), True)

    def test_no_variables(self):
        for question in (("open", ()), ("reasons", ()), ("fixed",), ("cores",), ("count",), ("count of", ()), ("least", ()),
                         ("least", (((), 1),)), ("met", ())):
            self.assertIs(is_question(question, 0), True)
        self.assertIs(is_question(("alike", 1, 2), 0), False)
        self.assertIs(is_question(("alike", 1, 2), 1), False)

    def test_what_is_none(self):
        for wrong in NO_QUESTIONS:
            self.assertIs(is_question(wrong, 3), False, wrong)
        for odd in ODD_VALUES:
            known = odd.__class__ is tuple and repr(odd) in map(repr, (
                ("open", ()), ("reasons", ()), ("fixed",), ("count",), ("least", ()), ("met", ())))
            self.assertIs(is_question(odd, 0), known, odd)

    def test_lists_bools_and_other_values_anywhere(self):
        for question in QUESTIONS:
            for other in list(listed_anywhere(question)) + list(true_for_one(question)):
                self.assertIs(is_question(other, 3), False)
            for put in NO_PARTS:
                # A greater weight of a wish is right.
                if put.__class__ is not int or question[0] != "least" or put < 0:
                    for other in changed_anywhere(question, put):
                        self.assertIs(is_question(other, 3), False, other)


class TestIsClaim(Case):
    def test_each_kind(self):
        self.assertIs(is_claim(value=("open", ()), n=0), True)
        self.assertEqual({claim[0] for claim in CLAIMS}, set(CLAIM_KINDS))
        self.assertEqual(len(CLAIM_KINDS), 14)
        for claim in CLAIMS:
            self.assertIs(is_claim(claim, 3), True, claim)

    def test_variables_too_great(self):
        for claim in (("open", (3,)), ("shut", (1, 3)), ("reasons", (3,), ()), ("reasons", (), (3,)), ("fixed", (-3,)),
                      ("alike", 1, 3), ("unlike", 3, 1), ("count of", (3,), 0), ("least", (((3,), 1),), 0), ("met", P), ("missed", P)):
            self.assertIs(is_claim(claim, 3), True)
            for n in (0, 1, 2):
                self.assertIs(is_claim(claim, n), False)

    def test_what_is_none(self):
        for wrong in NO_CLAIMS:
            self.assertIs(is_claim(wrong, 3), False, wrong)

    def test_lists_bools_and_other_values_anywhere(self):
        for claim in CLAIMS:
            for other in list(listed_anywhere(claim)) + list(true_for_one(claim)):
                self.assertIs(is_claim(other, 3), False)
            for put in NO_PARTS:
                if put.__class__ is not int:
                    for other in changed_anywhere(claim, put):
                        self.assertIs(is_claim(other, 3), False, other)


class TestAnswers(Case):
    def test_ordinary(self):
        self.assertSame([answer_of(F, ('count',)), answer_of(F, ('reasons', (1,))), answer_of(G, ('fixed',))],
                        [('count', 2), ('open', (1,)), ('shut', ())])
        self.assertSame(answer_of(formula=F, question=("reasons", (1, 2, -3))), ("reasons", (1, 2, -3), (1, 2)))
        self.assertSame(paper_of(formula=F, question=("open", ())), (1, -2, 3))
        self.assertSame(paper_of(F, ("reasons", (-1,))), (-1, 2, -3))

    def test_a_shut_formula_under_each_kind(self):
        self.assertSame([answer_of(G, question) for question in (
            ("open", ()), ("open", (1,)), ("reasons", (1,)), ("fixed",), ("cores",), ("count",), ("count of", (1,)),
            ("least", ()), ("least", (((1,), 2),)), ("met", (("some", (1,)),)))], [
            ("shut", ()), ("shut", (1,)), ("reasons", (1,), ()), ("shut", ()), ("cores", ((0, 1),), ((0,), (1,))), ("count", 0),
            ("count of", (1,), 0), ("shut", ()), ("shut", ()), ("missed", (("some", (1,)),))])
        self.assertSame(answer_of(Formula(2, ((),)), ("alike", 1, 2)), ("alike", 1, 2))
        for formula in list(shut_formulas(601, 12)) + [G, Formula(0, ((),)), Formula(3, ((), ()))]:
            rng = random.Random(602)
            if len(formula) > 9:
                continue
            for kind in QUESTION_KINDS:
                if kind != "alike" or formula.n > 1:
                    question = random_question(rng, formula.n, (kind,))
                    claim = answer_of(formula, question)
                    self.assertSame(claim, tried_answer(formula, question))
                    self.assertHolds(claim_holds, formula, claim, paper_of(formula, question))

    def test_edges(self):
        for n in (0, 1):
            for clauses in ((), ((),)):
                formula = Formula(n, clauses)
                everything = (("some", (1,)),) if n else ()
                for question in (("open", ()), ("reasons", ()), ("fixed",), ("cores",), ("count",), ("count of", ()), ("least", ()),
                                 ("met", everything)):
                    claim = answer_of(formula, question)
                    self.assertSame(claim, tried_answer(formula, question))
                    self.assertHolds(claim_holds, formula, claim, paper_of(formula, question))

    def test_errors(self):
        for wrong in NO_QUESTIONS:
            self.assertRaisesWith(InvalidQuestion, {"value": wrong}, answer_of, F, wrong)
            self.assertRaisesWith(InvalidQuestion, {"value": wrong}, paper_of, formula=F, question=wrong)
        for odd in ODD_VALUES:
            if not is_question(odd, 3):
                self.assertRaisesWith(InvalidQuestion, {"value": odd}, answer_of, F, odd)
                self.assertRaisesWith(InvalidQuestion, {"value": odd}, paper_of, F, odd)

    def test_many_small_formulas(self):
        rng = random.Random(603)
        seen = {}
        for formula in random_formulas(604, 500, 4, 6):
            for kind in QUESTION_KINDS:
                if kind == "alike" and formula.n < 2:
                    continue
                question = random_question(rng, formula.n, (kind,))
                claim = answer_of(formula, question)
                self.assertSame(claim, tried_answer(formula, question))
                self.assertIs(is_claim(claim, formula.n), True)
                paper = paper_of(formula, question)
                self.assertSame(paper_of(formula, question), paper)
                self.assertHolds(claim_holds, formula, claim, paper)
                self.assertTrue(slowly_holds(formula, claim, paper))
                seen[kind, claim[0]] = seen.get((kind, claim[0]), 0) + 1
        for pair in (("open", "open"), ("open", "shut"), ("reasons", "open"), ("reasons", "reasons"), ("fixed", "fixed"), ("fixed", "shut"),
                     ("alike", "alike"), ("alike", "unlike"), ("cores", "cores"), ("least", "least"), ("least", "shut"),
                     ("met", "met"), ("met", "missed")):
            self.assertGreater(seen[pair], 40, pair)

    def test_of_all_answers_just_the_true_one_has_a_paper(self):
        rng = random.Random(605)
        for formula in random_formulas(606, 150, 3, 5):
            questions = [random_question(rng, formula.n, (kind,)) for kind in QUESTION_KINDS if kind != "alike" or formula.n > 1]
            papers = [paper_of(formula, question) for question in questions]
            papers += [("free",), END, ("shut", END), (), ((), ()), (END, END), (END, ()), ("done",)] + list(tried_models(formula))
            for question in questions:
                claims = may_answer(rng, formula, question)
                self.assertGreater(len(claims), 1)
                for other in claims[1:]:
                    self.assertIs(is_claim(other, formula.n), True)
                    for paper in papers:
                        self.assertNot(claim_holds, formula, other, paper)

    def test_a_paper_holds_only_for_what_is_true(self):
        rng = random.Random(607)
        held = {kind: 0 for kind in CLAIM_KINDS}
        for formula in random_formulas(608, 250, 3, 5):
            papers = [paper_of(formula, random_question(rng, formula.n)) for _ in range(6)]
            papers += [core_paper(formula, row) for row in tried_cores(formula)]
            papers += [release_paper(formula, row) for row in tried_releases(formula)]
            papers += [END, ("free",), ("shut", END)] + list(tried_models(formula))[:2]
            for kind in CLAIM_KINDS:
                if kind in ("alike", "unlike") and formula.n < 2 or kind == "reasons" and not tried_cores(formula):
                    continue
                claim = tried_answer(formula, random_question(rng, formula.n, ("reasons",)))
                if kind != "reasons":
                    claim = random_claim(rng, formula, kind)
                papers_too = papers + ([paper_of(formula, asked_by(claim))] if kind not in ("core", "release") else [])
                true = tried_truth(formula, claim)
                for paper in papers_too:
                    if claim_holds(formula, claim, paper):
                        self.assertTrue(true, (formula.clauses, claim, paper))
                        held[kind] += 1
        for kind, many in held.items():
            self.assertGreater(many, 25, kind)

    def test_the_formula_stays_as_it_is(self):
        before = repr((F.n, F.clauses))
        for question in QUESTIONS:
            answer_of(F, question), paper_of(F, question), claim_holds(F, answer_of(F, question), paper_of(F, question))
        self.assertEqual(repr((F.n, F.clauses)), before)


class TestClaimHolds(Case):
    def test_each_kind(self):
        self.assertHolds(claim_holds, F, ("open", ()), (1, -2, 3))
        self.assertIs(claim_holds(formula=F, claim=("open", ()), paper=(1, -2, 3)), True)
        self.assertHolds(claim_holds, F, ("shut", (1, 2)), END)
        self.assertHolds(claim_holds, F, ("reasons", (1, 2), (1, 2)), reasons_paper(F, (1, 2)))
        self.assertHolds(claim_holds, F, ("fixed", ()), fixed_paper(F))
        self.assertHolds(claim_holds, F, ("alike", 1, 3), (END, END))
        self.assertHolds(claim_holds, F, ("unlike", 1, 2), (1, -2, 3))
        self.assertHolds(claim_holds, G, ("core", (0, 1)), (END, ((-1,), (1,))))
        self.assertHolds(claim_holds, G, ("release", (0,)), ((-1,), (END,)))
        self.assertHolds(claim_holds, F, ("release", ()), ((1, -2, 3), ()))
        self.assertHolds(claim_holds, Formula(0, ((),)), ("core", (0,)), (END, ((),)))
        self.assertHolds(claim_holds, F, ("cores", (), ((),)), ((), ((1, -2, 3),)))
        self.assertHolds(claim_holds, F, ("count", 2), count_paper(F))
        self.assertHolds(claim_holds, F, ("count of", (1, 3), 2), count_of_paper(F, (1, 3)))
        self.assertHolds(claim_holds, F, ("least", W, 3), least_paper(F, W))
        self.assertHolds(claim_holds, Formula(1, ((1,),)), ("met", (("some", (1,)),)), ("pick", 1, ("done",)))
        self.assertHolds(claim_holds, G, ("missed", (("some", (1,)),)), ("shut", END))

    def test_a_paper_of_one_claim_for_another_one(self):
        for claim in CLAIMS:
            for paper in PAPERS:
                if claim_holds(F, claim, paper):
                    self.assertTrue(tried_truth(F, claim), (claim, paper))
        self.assertNot(claim_holds, F, ("shut", (1, 2)), (1, -2, 3))
        self.assertNot(claim_holds, F, ("open", ()), END)
        self.assertNot(claim_holds, F, ("unlike", 1, 3), (END, END))
        self.assertNot(claim_holds, G, ("release", (0, 1)), (END, ((-1,), (1,))))
        self.assertNot(claim_holds, G, ("core", (0,)), ((-1,), (END,)))
        self.assertNot(claim_holds, F, ("count", 3), count_paper(F))
        self.assertNot(claim_holds, F, ("count of", (1,), 2), count_of_paper(F, (1, 3)))

    def test_places_beyond_the_clauses(self):
        for places in ((3,), (0, 3), (0, 1, 2, 3), (10 ** 12,)):
            for paper in PAPERS + ((END, ((1, -2, 3),)), (END, ((1, -2, 3),) * 2), ((1, -2, 3), (END,)), ((1, -2, 3), ())):
                self.assertNot(claim_holds, F, ("core", places), paper)
                self.assertNot(claim_holds, F, ("release", places), paper)
                self.assertNot(claim_holds, F, ("cores", (), (places,)), paper)
                self.assertNot(claim_holds, F, ("cores", (places,), ()), paper)

    def test_claims_that_it_does_not_know(self):
        self.assertNot(claim_holds, F, ("left", ((1,),)), ())
        self.assertNot(claim_holds, F, ("left", F.clauses), ())
        self.assertNot(claim_holds, F, ("broken", (), "open"), (1, -2, 3))
        self.assertNot(claim_holds, F, ("between", ()), ((), END))
        for wrong in NO_CLAIMS:
            for paper in PAPERS + (wrong,):
                self.assertNot(claim_holds, F, wrong, paper)

    def test_odd_claims_and_papers(self):
        rng = random.Random(609)
        for formula in (F, G, Formula(0, ()), Formula(2, ((1,), (-1, 2))), Formula(2, ((),))):
            for kind in QUESTION_KINDS:
                if kind == "alike" and formula.n < 2:
                    continue
                question = random_question(rng, formula.n, (kind,))
                claim = answer_of(formula, question)
                paper = paper_of(formula, question)
                for other in list(listed_anywhere(paper)) + list(true_for_one(paper)):
                    self.assertNot(claim_holds, formula, claim, other)
                for other in list(listed_anywhere(claim)) + list(true_for_one(claim)):
                    self.assertNot(claim_holds, formula, other, paper)
                for put in NO_PARTS:
                    if put.__class__ is not int:
                        for other in changed_anywhere(paper, put):
                            self.assertNot(claim_holds, formula, claim, other)
                        for other in changed_anywhere(claim, put):
                            self.assertNot(claim_holds, formula, other, paper)

    def test_any_values_at_all(self):
        claims = CLAIMS + NO_CLAIMS + ODD_VALUES
        for formula in (F, G, Formula(0, ())):
            for claim in claims:
                for paper in PAPERS + ODD_VALUES + (claim,):
                    self.assertIs(claim_holds(formula, claim, paper).__class__, bool)


class TestRefute(Case):
    def assertRefuted(self, formula, claim):
        have = refute(formula, claim)
        if tried_truth(formula, claim):
            self.assertIsNone(have)
            return None
        self.assertIs(have.__class__, tuple)
        self.assertSame(refute(formula, claim), have)
        other, paper = have
        self.assertSame(other, tried_answer(formula, asked_by(claim)))
        self.assertHolds(claim_holds, formula, other, paper)
        self.assertTrue(slowly_holds(formula, other, paper))
        return other

    def test_ordinary(self):
        self.assertSame([refute(F, ('open', ())), refute(F, ('unlike', 1, 3))[0], refute(F, ('shut', ()))[0]],
                        [None, ('alike', 1, 3), ('open', ())])
        self.assertSame(refute(formula=F, claim=("shut", (1,))), (("open", (1,)), (1, -2, 3)))

    def test_each_kind_true_and_untrue(self):
        pick = Formula(2, ((1,), (-1, 2)))
        some, each = (("some", (1, 2)),), (("each", (1, 2)),)
        for formula, claim, other in (
                (F, ("open", (1,)), None), (F, ("open", (1, 2)), ("shut", (1, 2))), (F, ("shut", (1, 2)), None),
                (F, ("shut", (1,)), ("open", (1,))), (F, ("reasons", (1, 2, -3), (1, 2)), None),
                (F, ("reasons", (1, 2, -3), (1, -3)), ("reasons", (1, 2, -3), (1, 2))), (F, ("reasons", (1,), (1,)), ("open", (1,))),
                (F, ("reasons", (1, 2), (3,)), ("reasons", (1, 2), (1, 2))), (pick, ("fixed", (1, 2)), None),
                (pick, ("fixed", (1,)), ("fixed", (1, 2))), (G, ("fixed", ()), ("shut", ())), (F, ("alike", 1, 3), None),
                (F, ("alike", 1, 2), ("unlike", 1, 2)), (F, ("unlike", 1, 2), None), (F, ("unlike", -1, -3), ("alike", -1, -3)),
                (G, ("core", (0, 1)), None), (G, ("core", (0,)), ("cores", ((0, 1),), ((0,), (1,)))),
                (F, ("core", ()), ("cores", (), ((),))), (F, ("core", (7,)), ("cores", (), ((),))), (G, ("release", (1,)), None),
                (F, ("release", ()), None), (G, ("release", ()), ("cores", ((0, 1),), ((0,), (1,)))),
                (G, ("release", (0, 9)), ("cores", ((0, 1),), ((0,), (1,)))), (F, ("cores", (), ((),)), None),
                (F, ("cores", (), ()), ("cores", (), ((),))), (F, ("count", 2), None), (F, ("count", 3), ("count", 2)),
                (F, ("count of", (1, 2), 2), None), (F, ("count of", (1, 2), 4), ("count of", (1, 2), 2)), (F, ("least", W, 3), None),
                (F, ("least", W, 0), ("least", W, 3)), (G, ("least", (), 0), ("shut", ())), (pick, ("met", some), None),
                (pick, ("missed", some), ("met", some)), (pick, ("missed", each), None), (pick, ("met", each), ("missed", each))):
            self.assertSame(self.assertRefuted(formula, claim), other)

    def test_no_wishes_and_no_places(self):
        for claim in (("least", (), 0), ("least", (), 1), ("core", ()), ("release", ()), ("cores", ((),), ()), ("cores", (), ((),)),
                      ("count of", (), 1), ("count of", (), 0), ("reasons", (), ()), ("fixed", ())):
            for formula in (Formula(0, ()), Formula(0, ((),)), F, G, Formula(2, ((), (1,)))):
                self.assertRefuted(formula, claim)

    def test_errors(self):
        for wrong in NO_CLAIMS:
            self.assertRaisesWith(InvalidClaim, {"value": wrong}, refute, F, wrong)
            self.assertRaisesWith(InvalidClaim, {"value": wrong}, refute, formula=F, claim=wrong)
        for claim in (("open", (4,)), ("met", P), ("alike", 1, 2)):
            self.assertRaisesWith(InvalidClaim, {"value": claim}, refute, G, claim)

    def test_random_claims_of_all_kinds(self):
        rng = random.Random(610)
        counts = {}
        for formula in random_formulas(611, 400, 3, 6):
            for kind in CLAIM_KINDS:
                if kind in ("alike", "unlike") and formula.n < 2:
                    continue
                claim = ("reasons", random_row(rng, formula.n), random_row(rng, formula.n))
                if kind != "reasons":
                    claim = random_claim(rng, formula, kind)
                true = self.assertRefuted(formula, claim) is None
                counts[kind, true] = counts.get((kind, true), 0) + 1
        for kind in CLAIM_KINDS:
            self.assertGreater(counts[kind, False], 10, kind)
            if kind != "reasons":
                self.assertGreater(counts[kind, True], 10, kind)

    def test_true_reasons(self):
        rng = random.Random(612)
        for formula in random_formulas(613, 200, 4, 9):
            claim = tried_answer(formula, random_question(rng, formula.n, ("reasons",)))
            self.assertIsNone(refute(formula, claim))

    def test_a_model_stands_against_shut(self):
        for formula in random_formulas(614, 80):
            if tried_models(formula):
                self.assertSame(refute(formula, ("shut", ())), (("open", ()), first_model(formula)))


if __name__ == "__main__":
    unittest.main()
