"""The interface at the document's end: names, parameter names, and the file in which each thing is defined."""

import importlib
import inspect
import unittest

FUNCTIONS = {
    "clauses": ("is_clause(value, n)", "clause_of(literals)", "agrees(literals, model)"),
    "formulas": ("joined(one, other)", "read_formula(text)"),
    "models": ("is_model(formula, value)", "models(formula)", "first_model(formula)"),
    "forcing": ("forced(formula, literals)",),
    "solving": ("is_open(formula)", "open_claim(formula, literals)", "open_paper(formula, literals)",
                "open_holds(formula, claim, paper)"),
    "reasons": ("reasons(formula, literals)", "reasons_paper(formula, literals)",
                "reasons_holds(formula, claim, paper)"),
    "resolutions": ("trimmed(formula, steps)", "resolution(formula, steps)", "resolution_holds(formula, rows)"),
    "fixed": ("fixed(formula)", "fixed_claim(formula)", "fixed_paper(formula)", "fixed_holds(formula, claim, paper)",
              "alike_claim(formula, a, b)", "alike_paper(formula, a, b)", "alike_holds(formula, claim, paper)",
              "alike_groups(formula)"),
    "cores": ("cores(formula)", "releases(formula)", "cores_claim(formula)", "cores_paper(formula)",
              "core_paper(formula, places)", "release_paper(formula, places)", "cores_holds(formula, claim, paper)"),
    "counting": ("count(formula)", "count_of(formula, variables)", "count_claim(formula)", "count_paper(formula)",
                 "count_holds(formula, claim, paper)", "count_of_claim(formula, variables)",
                 "count_of_paper(formula, variables)", "count_of_holds(formula, claim, paper)"),
    "wishes": ("least_loss(formula, wishes)", "best_models(formula, wishes)", "least_claim(formula, wishes)",
               "least_paper(formula, wishes)", "least_holds(formula, claim, paper)"),
    "taking": ("taken(formula, step)", "steps_open(formula)", "taken_all(formula, steps)",
               "brought_back(formula, steps, model)", "simplified(formula)", "left_holds(formula, claim, paper)"),
    "written": ("parity_clauses(literals, bit)", "at_most_clauses(literals, k, fresh)",
                "at_least_clauses(literals, k, fresh)"),
    "betweens": ("between(one, other)", "between_paper(one, other)", "between_holds(one, other, claim, paper)"),
    "prefixes": ("is_met(formula, prefix)", "met_claim(formula, prefix)", "met_paper(formula, prefix)",
                 "met_holds(formula, claim, paper)", "ways_to_meet(formula, prefix)"),
    "turnings": ("is_turning(value, n)", "turned(turning, literals)", "keeps(formula, turning)", "turnings(formula)",
                 "smaller_first(turning, fresh)", "broken(formula, rows)", "broken_claim(formula, rows)",
                 "broken_paper(formula, rows)", "broken_holds(formula, claim, paper)"),
    "claims": ("is_question(value, n)", "answer_of(formula, question)", "paper_of(formula, question)", "is_claim(value, n)",
               "claim_holds(formula, claim, paper)", "refute(formula, claim)"),
    "told": ("told(value)", "untold(text)"),
    "desk": ("same_state(one, other)",),
    "histories": ("paper_holds(text)", "paper_end(text)", "relived(text)"),
}

METHODS = {
    ("formulas", "Formula"): (
        "__init__(self, n, clauses)", "__eq__(self, other)", "__len__(self)", "__str__(self)",
        "with_clause(self, clause)", "without(self, place)", "only(self, places)", "under(self, literals)",
    ),
    ("desk", "Desk"): (
        "__init__(self, n)", "formula(self)", "depth(self)", "assumed(self)", "here(self)", "deed(self, deed)",
        "undo(self)", "redo(self)", "done(self)", "watch(self, question)", "leave(self, question)", "watched(self)",
        "claim(self, question)", "paper_for(self, question)", "paper(self)",
    ),
}


def module(name):
    return importlib.import_module("clausehold." + name)


class TestInterface(unittest.TestCase):
    def test_functions_stand_in_their_files(self):
        for name, told in FUNCTIONS.items():
            for line in told:
                function = getattr(module(name), line.split("(")[0])
                self.assertTrue(inspect.isfunction(function))
                self.assertEqual(function.__module__, "clausehold." + name)
                self.assertEqual(function.__name__ + str(inspect.signature(function)), line)

    def test_methods_stand_in_their_classes_themselves(self):
        for (name, kind), told in METHODS.items():
            found = getattr(module(name), kind)
            self.assertEqual(found.__module__, "clausehold." + name)
            for line in told:
                method = vars(found)[line.split("(")[0]]
                self.assertEqual(method.__name__ + str(inspect.signature(method)), line)

    def test_error_classes_stand_in_errors(self):
        for found in vars(module("errors")).values():
            if isinstance(found, type):
                self.assertEqual(found.__module__, "clausehold.errors")


if __name__ == "__main__":
    unittest.main()
