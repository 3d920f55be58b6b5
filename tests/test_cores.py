"""Points [16] and [17]: cores and releases."""

import random
import unittest
from itertools import combinations

from clausehold.cores import core_paper, cores, cores_claim, cores_holds, cores_paper, release_paper, releases
from clausehold.errors import Undefined
from clausehold.formulas import Formula
from tests.helpers import (
    ODD_VALUES, Case, nested, parity_formula, random_clause, random_formulas, slowly_refutes, tried_models,
)

F = Formula(3, ((1, 2), (-1, 3), (-2, -3)))
G = Formula(1, ((1,), (-1,)))
K = Formula(2, ((1,), (-1,), (2,), (-1, -2)))
SQUARE = Formula(2, ((1, 2), (1, -2), (-1, 2), (-1, -2)))
END = (("add", ()),)
CORES = ((0, 1), (0, 2, 3))
RELEASES = ((0,), (1, 2), (1, 3))
CLAIM = ("cores", CORES, RELEASES)
PAPER = ((END, END), ((-1, 2), (1, -2), (1, 2)))
NO_PLACES = ((1, 0), (0, 0), (4,), (-1,), (0, 4), [0], [0, 1], [], None, True, 0, "", "0", (True,), (0, None), ((0,),),
             ([0],), (0, True), (False,), F, {0: 0}, nested(30), nested(30, list), ("0",), (0, (1,)))


def is_shut(formula, places):
    return not tried_models(Formula(formula.n, [formula.clauses[place] for place in places]))


def rows_of_places(formula):
    return [row for size in range(len(formula) + 1) for row in combinations(range(len(formula)), size)]


def tried_cores(formula):
    """All cores by trying all rows of places."""
    out = []
    for row in rows_of_places(formula):
        if not any(set(core) <= set(row) for core in out) and is_shut(formula, row):
            out.append(row)
    return tuple(out)


def tried_releases(formula):
    """All releases by trying all rows of places."""
    out = []
    for row in rows_of_places(formula):
        others = [place for place in range(len(formula)) if place not in row]
        if not any(set(release) <= set(row) for release in out) and not is_shut(formula, others):
            out.append(row)
    return tuple(out)


def small_formulas(seed, many, most_clauses=7):
    """Random formulas of few clauses, many of them shut."""
    rng = random.Random(seed)
    for _ in range(many):
        n = rng.randint(0, 3)
        clauses = [random_clause(rng, n, 2) for _ in range(rng.randint(0, most_clauses))]
        if clauses and rng.random() < 0.3:
            clauses.append(rng.choice(clauses))
        yield Formula(n, clauses)


def slowly_shows_core(formula, places, paper):
    refutation, opens = paper
    if not slowly_refutes(formula.only(places), refutation) or len(opens) != len(places):
        return False
    return all(model in tried_models(formula.only(places[:at] + places[at + 1:])) for at, model in enumerate(opens))


def slowly_shows_release(formula, places, paper):
    model, refutations = paper
    others = [place for place in range(len(formula)) if place not in places]
    if model not in tried_models(formula.only(others)) or len(refutations) != len(places):
        return False
    return all(slowly_refutes(formula.only(sorted(others + [place])), steps)
               for place, steps in zip(places, refutations))


class TestCoresAndReleases(Case):
    def test_all_in_order(self):
        self.assertSame([cores(K), releases(K)], [CORES, RELEASES])
        self.assertSame([cores(formula=SQUARE), releases(formula=SQUARE)], [((0, 1, 2, 3),), ((0,), (1,), (2,), (3,))])
        self.assertSame(cores_claim(formula=K), CLAIM)

    def test_an_open_formula(self):
        for formula in (F, Formula(0, ()), Formula(3, ()), Formula(1, ((1,), (1,)))):
            self.assertSame([cores(formula), releases(formula)], [(), ((),)])
            self.assertSame(cores_claim(formula), ("cores", (), ((),)))
            self.assertHolds(cores_holds, formula, ("cores", (), ((),)), cores_paper(formula))

    def test_the_empty_clause(self):
        self.assertSame([cores(Formula(0, ((),))), releases(Formula(0, ((),)))], [((0,),), ((0,),)])
        twice = Formula(1, ((), (1,), ()))
        self.assertSame([cores(twice), releases(twice)], [((0,), (2,)), ((0, 2),)])
        mixed = Formula(1, ((1,), (), (-1,)))
        self.assertSame([cores(mixed), releases(mixed)], [((1,), (0, 2)), ((0, 1), (1, 2))])

    def test_a_clause_twice(self):
        formula = Formula(1, ((1,), (-1,), (1,)))
        self.assertSame([cores(formula), releases(formula)], [((0, 1), (1, 2)), ((1,), (0, 2))])

    def test_order_by_length_ahead_of_members(self):
        formula = Formula(3, ((1, 2), (-1, 2), (-2, 3), (-2, -3), (3,), (-3,)))
        self.assertSame(cores(formula)[0], (4, 5))
        self.assertSame(cores(formula), tried_cores(formula))

    def test_against_all_rows(self):
        more = 0
        for formula in small_formulas(71, 500):
            every, freeing = tried_cores(formula), tried_releases(formula)
            self.assertSame(cores(formula), every)
            self.assertSame(releases(formula), freeing)
            claim = ("cores", every, freeing)
            self.assertSame(cores_claim(formula), claim)
            paper = cores_paper(formula)
            self.assertSame(cores_paper(formula), paper)
            self.assertHolds(cores_holds, formula, claim, paper)
            self.assertEqual([len(part) for part in paper], [len(every), len(freeing)])
            for core, steps in zip(every, paper[0]):
                self.assertTrue(slowly_refutes(formula.only(core), steps))
            for release, model in zip(freeing, paper[1]):
                others = [place for place in range(len(formula)) if place not in release]
                self.assertIn(model, tried_models(formula.only(others)))
            more += len(every) > 1
        self.assertGreater(more, 150)

    def test_eight_clauses(self):
        rng = random.Random(72)
        for n in (2, 6, 10):
            for _ in range(10):
                formula = Formula(n, [random_clause(rng, n, 2) for _ in range(8)])
                self.assertSame(cores(formula), tried_cores(formula) if n < 10 else cores(formula))
                self.assertHolds(cores_holds, formula, cores_claim(formula), cores_paper(formula))
        pairs = Formula(4, ((1,), (-1,), (2,), (-2,), (3,), (-3,), (4,), (-4,)))
        self.assertSame(cores(pairs), ((0, 1), (2, 3), (4, 5), (6, 7)))
        self.assertEqual(len(releases(pairs)), 16)
        self.assertHolds(cores_holds, pairs, cores_claim(pairs), cores_paper(pairs))
        alike = Formula(1, ((1,), (-1,)) * 4)
        self.assertEqual([len(cores(alike)), releases(alike)], [16, ((0, 2, 4, 6), (1, 3, 5, 7))])

    def test_the_formula_stays_as_it_is(self):
        before = repr((K.n, K.clauses))
        cores(K), releases(K), cores_claim(K), cores_paper(K), core_paper(K, (0, 1)), release_paper(K, (0,))
        cores_holds(K, CLAIM, PAPER)
        self.assertEqual(repr((K.n, K.clauses)), before)


class TestPapersOfOne(Case):
    def test_papers(self):
        self.assertHolds(cores_holds, K, ("core", (0, 1)), core_paper(K, (0, 1)))
        self.assertHolds(cores_holds, K, ("core", (0, 2, 3)), core_paper(formula=K, places=(0, 2, 3)))
        self.assertHolds(cores_holds, K, ("release", (1, 2)), release_paper(K, (1, 2)))
        self.assertHolds(cores_holds, F, ("release", ()), release_paper(formula=F, places=()))
        self.assertEqual(len(release_paper(F, ())), 2)
        self.assertSame(release_paper(F, ())[1], ())

    def test_what_is_none(self):
        for places in ((0, 1, 2), (0,), (), (1, 2, 3), (0, 1, 2, 3), (0, 2), (2, 3)) + NO_PLACES:
            self.assertRaisesWith(Undefined, {"what": "core"}, core_paper, K, places)
        for places in ((0, 1), (1,), (), (1, 2, 3), (2, 3), (3,), (0, 1, 2, 3)) + NO_PLACES:
            self.assertRaisesWith(Undefined, {"what": "release"}, release_paper, K, places)
        self.assertRaisesWith(Undefined, {"what": "core"}, core_paper, F, ())
        self.assertRaisesWith(Undefined, {"what": "release"}, release_paper, F, (0,))
        self.assertRaisesWith(Undefined, {"what": "core"}, core_paper, Formula(0, ()), ())
        self.assertRaisesWith(Undefined, {"what": "core"}, core_paper, Formula(0, ()), (0,))

    def test_against_all_rows_of_places(self):
        for formula in small_formulas(73, 120, 5):
            every, freeing = tried_cores(formula), tried_releases(formula)
            for places in rows_of_places(formula):
                if places in every:
                    paper = core_paper(formula, places)
                    self.assertSame(core_paper(formula, places), paper)
                    self.assertTrue(slowly_shows_core(formula, places, paper))
                    self.assertHolds(cores_holds, formula, ("core", places), paper)
                else:
                    self.assertRaisesWith(Undefined, {"what": "core"}, core_paper, formula, places)
                if places in freeing:
                    paper = release_paper(formula, places)
                    self.assertSame(release_paper(formula, places), paper)
                    self.assertTrue(slowly_shows_release(formula, places, paper))
                    self.assertHolds(cores_holds, formula, ("release", places), paper)
                else:
                    self.assertRaisesWith(Undefined, {"what": "release"}, release_paper, formula, places)

    def test_forty_clauses(self):
        formula = Formula(10, parity_formula(5, (0, 1)).clauses + ((6, 7), (-6,), (-7,), (8, 9, 10)) + ((1, 6),) * 4)
        self.assertEqual(len(formula), 40)
        places = tuple(range(32))
        paper = core_paper(formula, places)
        self.assertHolds(cores_holds, formula, ("core", places), paper)
        self.assertHolds(cores_holds, formula, ("core", (32, 33, 34)), core_paper(formula, (32, 33, 34)))
        self.assertHolds(cores_holds, formula, ("release", (3, 33)), release_paper(formula, (3, 33)))
        self.assertRaisesWith(Undefined, {"what": "release"}, release_paper, formula, (33,))
        self.assertNot(cores_holds, formula, ("core", places), (paper[0], paper[1][::-1]))
        self.assertNot(cores_holds, formula, ("cores", (places,), ((0,),)), paper)


class TestOneHolds(Case):
    def test_a_core(self):
        opens = ((-1, 2), (1, 2))
        self.assertHolds(cores_holds, K, ("core", (0, 1)), (END, opens))
        self.assertHolds(cores_holds, K, ("core", (0, 1)), (END, ((-1, -2), (1, -2))))
        self.assertIs(cores_holds(formula=K, claim=("core", (0, 1)), paper=(END, opens)), True)
        for other in (opens[::-1], opens[:1], opens + opens[:1], (), ((-1, 2), (-1, 2)), ((1, 2), (1, 2)), (-1, 2),
                      ((-1,), (1,)), ((-1, 2, 3), (1, 2, 3))):
            self.assertNot(cores_holds, K, ("core", (0, 1)), (END, other))
        for other in ((), (("add", (1,)),), END[0], (("drop", (2,)),) + END):
            self.assertNot(cores_holds, K, ("core", (0, 1)), (other, opens))
        self.assertHolds(cores_holds, K, ("core", (0, 1)), ((("add", (2,)), ("drop", (2,))) + END, opens))

    def test_the_refutation_of_a_core_has_its_clauses_alone(self):
        formula = Formula(2, ((1, 2), (1, -2), (-1, 2), (-1, -2), (1,)))
        steps = (("add", (2,)),) + END
        opens = ((-1, -2), (-1, 2), (1, -2), (1, 2))
        self.assertHolds(cores_holds, formula, ("core", (0, 1, 2, 3)), (steps, opens))
        self.assertNot(cores_holds, formula, ("core", (0, 1, 2, 3)), (END, opens))

    def test_a_shut_row_with_more_than_a_core(self):
        for places in ((0, 1, 2), (0, 1, 3), (0, 1, 2, 3)):
            for model in ((1, 2), (-1, 2), (1, -2), (-1, -2)):
                self.assertNot(cores_holds, K, ("core", places), (END, (model,) * len(places)))
            self.assertNot(cores_holds, K, ("core", places), (END, ()))
            self.assertNot(cores_holds, K, ("core", places), (END, ((-1, 2), (1, 2))))

    def test_a_release(self):
        paper = ((1, -2), (END, END))
        self.assertHolds(cores_holds, K, ("release", (1, 2)), paper)
        self.assertHolds(cores_holds, K, ("release", (0,)), ((-1, 2), (END,)))
        self.assertHolds(cores_holds, F, ("release", ()), ((1, -2, 3), ()))
        for other in (((1, 2), (END, END)), ((-1, 2), (END, END)), ((1, -2), (END,)), ((1, -2), ()), ((1, -2), END),
                      ((1, -2), (END, END, END)), ((1, -2), (END, ())), ((1, -2), ((), END)), ((1,), (END, END))):
            self.assertNot(cores_holds, K, ("release", (1, 2)), other)

    def test_the_refutations_of_a_release_in_their_order(self):
        formula = Formula(2, ((1,), (2,), (-1,), (-2,)))
        one, two = (("drop", (-1,)),), (("drop", (1,)),)
        self.assertHolds(cores_holds, formula, ("release", (2, 3)), ((1, 2), (END, END)))
        self.assertHolds(cores_holds, formula, ("release", (2, 3)), ((1, 2), ((("drop", (2,)),) + END, two + END)))
        self.assertNot(cores_holds, formula, ("release", (2, 3)), ((1, 2), (two + END, (("drop", (2,)),) + END)))
        self.assertNot(cores_holds, formula, ("release", (2, 3)), ((1, 2), (END, one + END)))

    def test_a_release_with_more_than_it_needs(self):
        self.assertNot(cores_holds, K, ("release", (0, 1)), ((-1, 2), (END, END)))
        self.assertNot(cores_holds, F, ("release", (0,)), ((1, -2, 3), (END,)))
        self.assertNot(cores_holds, G, ("release", ()), ((1,), ()))

    def test_places_that_are_none(self):
        for places in NO_PLACES:
            for model in ((-1, 2), (1, 2)):
                self.assertNot(cores_holds, K, ("core", places), (END, (model, (1, 2))))
                self.assertNot(cores_holds, K, ("release", places), (model, (END,)))
                self.assertNot(cores_holds, F, ("release", places), ((1, -2, 3), ()))

    def test_papers_of_other_places_or_another_formula(self):
        self.assertNot(cores_holds, K, ("core", (0, 2, 3)), (END, ((-1, 2), (1, 2))))
        self.assertNot(cores_holds, SQUARE, ("core", (0, 1)), (END, ((-1, 2), (1, 2))))
        self.assertNot(cores_holds, Formula(1, K.clauses[:2]), ("core", (0, 1)), (END, ((-1, 2), (1, 2))))
        self.assertNot(cores_holds, K, ("release", (1, 3)), ((1, -2), (END, END)))
        self.assertNot(cores_holds, K.without(2), ("release", (1, 2)), ((1, -2), (END, END)))
        self.assertNot(cores_holds, K, ("release", (0, 1)), (END, ((-1, 2), (1, 2))))
        self.assertNot(cores_holds, K, ("core", (1, 2)), ((1, -2), (END, END)))

    def test_odd_claims_and_papers(self):
        self.assertLooksClosely(cores_holds, K, ("core", (0, 2, 3)), core_paper(K, (0, 2, 3)))
        self.assertLooksClosely(cores_holds, K, ("release", (1, 2)), ((1, -2), (END, END)))
        self.assertLooksClosely(cores_holds, F, ("release", ()), ((1, -2, 3), ()))


class TestAllHold(Case):
    def test_a_paper(self):
        self.assertHolds(cores_holds, K, CLAIM, PAPER)
        self.assertHolds(cores_holds, F, ("cores", (), ((),)), ((), ((1, -2, 3),)))
        self.assertHolds(cores_holds, Formula(0, ((),)), ("cores", ((0,),), ((0,),)), ((END,), ((),)))
        self.assertHolds(cores_holds, Formula(0, ()), ("cores", (), ((),)), ((), ((),)))

    def test_rows_that_are_lacking_or_too_many(self):
        models = ((-1, 2), (1, -2), (1, 2))
        for every in ((), CORES[:1], CORES[1:], CORES + ((0, 1, 2),), ((0, 1), (0, 1, 2), (0, 2, 3)), CORES + CORES[:1],
                      CORES[:1] + CORES, CORES[::-1], ((0, 1), (0, 2, 3), (0, 1, 2, 3))):
            self.assertNot(cores_holds, K, ("cores", every, RELEASES), ((END,) * len(every), models))
            self.assertNot(cores_holds, K, ("cores", every, RELEASES), PAPER)
        for freeing, opens in (
                ((), ()), (RELEASES[:2], models[:2]), (RELEASES[1:], models[1:]), (RELEASES[:1], models[:1]),
                (RELEASES + ((1, 2, 3),), models + ((1, 2),)), (RELEASES[::-1], models[::-1]), (((),), ((1, 2),)),
                (((0,), (0,), (1, 2), (1, 3)), models[:1] + models), (((0,), (0, 1), (1, 2), (1, 3)), models[:1] + models),
                (((0,), (1, 3), (1, 2)), ((-1, 2), (1, 2), (1, -2)))):
            self.assertNot(cores_holds, K, ("cores", CORES, freeing), ((END, END), opens))
            self.assertNot(cores_holds, K, ("cores", CORES, freeing), PAPER)
        self.assertNot(cores_holds, K, ("cores", RELEASES, CORES), PAPER)

    def test_rows_that_fit_each_other_alone(self):
        # Each the hitting sets of the other, and each core shut, but not all that there are.
        self.assertNot(cores_holds, K, ("cores", ((0, 1),), ((0,), (1,))), ((END,), ((-1, 2), (1, 2))))
        self.assertNot(cores_holds, K, ("cores", ((0, 2, 3),), ((0,), (2,), (3,))), ((END,), ((-1, 2),) * 3))
        self.assertNot(cores_holds, K, ("cores", (), ((),)), ((), ((1, 2),)))
        self.assertNot(cores_holds, F, ("cores", ((),), ()), ((END,), ()))
        self.assertNot(cores_holds, K, ("cores", ((),), ()), ((END,), ()))
        self.assertNot(cores_holds, K, ("cores", (), ()), ((), ()))
        self.assertNot(cores_holds, F, ("cores", (), ()), ((), ()))
        self.assertNot(cores_holds, F, ("cores", ((0, 1, 2),), ((0,), (1,), (2,))), ((END,), ((1, -2, 3),) * 3))

    def test_papers_too_long_or_too_short(self):
        refutations, opens = PAPER
        for paper in ((refutations[:1], opens), (refutations + (END,), opens), (refutations, opens[:2]),
                      (refutations, opens + opens[:1]), (refutations, opens[::-1]), (opens, refutations), (refutations,),
                      (refutations, opens, ()), ((), opens), (refutations, ()), ((END, ()), opens), (END, opens),
                      (refutations, (1, 2)), (refutations, ((-1, 2), (1, -2), (1, 2, 3)))):
            self.assertNot(cores_holds, K, CLAIM, paper)

    def test_claims_in_no_form(self):
        for claim in (("cores", CORES), ("cores", CORES, RELEASES, ()), ("cores", RELEASES), ("core", CORES, RELEASES),
                      ("cores", (0, 1), RELEASES), ("cores", CORES, 0), ("cores", list(CORES), RELEASES),
                      ("cores", ((1, 0), (0, 2, 3)), RELEASES), ("cores", ((0, 1), (0, 2, 4)), RELEASES),
                      ("cores", CORES, ((-1,), (1, 2), (1, 3))), ("release", (0,), (1,)), ("cores",), (CORES, RELEASES)):
            self.assertNot(cores_holds, K, claim, PAPER)

    def test_a_paper_of_another_formula(self):
        for place in range(4):
            self.assertNot(cores_holds, K.without(place), CLAIM, PAPER)
        self.assertNot(cores_holds, K.with_clause((1,)), CLAIM, PAPER)
        self.assertNot(cores_holds, Formula(3, K.clauses), CLAIM, PAPER)
        self.assertNot(cores_holds, SQUARE, CLAIM, PAPER)

    def test_random_claims_are_true_if_they_hold(self):
        rng = random.Random(74)
        held = 0
        for formula in small_formulas(75, 400, 4):
            rows = rows_of_places(formula)
            every, freeing = list(tried_cores(formula)), list(tried_releases(formula))
            for _ in range(4):
                part = rng.choice((every, freeing))
                if part and rng.random() < 0.4:
                    part.pop(rng.randrange(len(part)))
                if rng.random() < 0.4:
                    part.insert(rng.randint(0, len(part)), rng.choice(rows))
                claim = ("cores", tuple(every), tuple(freeing))
                opens = [tried_models(formula.only([x for x in range(len(formula)) if x not in release]))
                         for release in freeing]
                paper = ((END,) * len(every), tuple(found[0] if found else () for found in opens))
                told = claim == ("cores", tried_cores(formula), tried_releases(formula))
                shows = all(slowly_refutes(formula.only(core), END) for core in every)
                self.assertIs(cores_holds(formula, claim, paper), told and shows)
                held += told and shows
        self.assertGreater(held, 50)

    def test_odd_claims_and_papers(self):
        self.assertLooksClosely(cores_holds, K, CLAIM, PAPER)
        self.assertLooksClosely(cores_holds, G, ("cores", ((0, 1),), ((0,), (1,))), ((END,), ((-1,), (1,))))
        self.assertLooksClosely(cores_holds, F, ("cores", (), ((),)), ((), ((1, -2, 3),)))
        for odd in ODD_VALUES:
            self.assertNot(cores_holds, K, ("cores", odd, RELEASES), PAPER)
            self.assertNot(cores_holds, K, ("cores", CORES, odd), PAPER)
            self.assertNot(cores_holds, K, CLAIM, (odd, PAPER[1]))
            self.assertNot(cores_holds, K, CLAIM, (PAPER[0], odd))


class TestRandomFormulas(Case):
    def test_papers_of_all_cores_and_releases(self):
        for formula in random_formulas(76, 60, 6, 8):
            self.assertHolds(cores_holds, formula, cores_claim(formula), cores_paper(formula))
            for core in cores(formula):
                self.assertHolds(cores_holds, formula, ("core", core), core_paper(formula, core))
            for release in releases(formula):
                self.assertHolds(cores_holds, formula, ("release", release), release_paper(formula, release))


if __name__ == "__main__":
    unittest.main()
