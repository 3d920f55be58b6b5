"""Slow readings of the document's words over the whole program: answers by trying all rows, papers step by step, texts
by Python's own, desks and histories kept in plain lists."""

import ast

from clausehold.claims import claim_holds
from clausehold.formulas import Formula
from tests.helpers import random_clause, random_row, slowly_refutes, tried_models
from tests.test_cores import slowly_shows_core, slowly_shows_release, tried_cores, tried_releases
from tests.test_counting import slow_count, slow_count_of
from tests.test_fixed import slowly_shows_fixed, tried_fixed
from tests.test_prefixes import order_of, random_prefix, tried_met
from tests.test_prefixes import slowly_shows as slowly_shows_met
from tests.test_reasons import tried_reasons
from tests.test_wishes import random_wishes, tried_loss
from tests.test_wishes import slowly_shows as slowly_shows_least

QUESTION_KINDS = ("open", "reasons", "fixed", "alike", "cores", "count", "count of", "least", "met")
CLAIM_KINDS = QUESTION_KINDS + ("shut", "unlike", "core", "release", "missed")


def random_variables(rng, n):
    return tuple(v for v in range(1, n + 1) if rng.random() < 0.5)


def random_pair(rng, n):
    a, b = rng.sample(range(1, n + 1), 2)
    return a * rng.choice((1, -1)), b * rng.choice((1, -1))


def random_question(rng, n, kinds=QUESTION_KINDS):
    word = rng.choice([kind for kind in kinds if kind != "alike" or n > 1])
    if word in ("open", "reasons"):
        return (word, random_row(rng, n))
    if word == "alike":
        return (word,) + random_pair(rng, n)
    if word == "count of":
        return (word, random_variables(rng, n))
    if word == "least":
        return (word, random_wishes(rng, n, 3))
    if word == "met":
        return (word, random_prefix(rng, n))
    return (word,)


def tried_answer(formula, question):
    """The claim that answers a question, by trying all rows."""
    found = tried_models(formula)
    word = question[0]
    if word in ("open", "reasons") and any(set(question[1]) <= set(model) for model in found):
        return ("open", question[1])
    if word == "open":
        return ("shut", question[1])
    if word == "reasons":
        return ("reasons", question[1], tried_reasons(formula, question[1])[0])
    if word == "alike":
        _, a, b = question
        return ("alike" if all((a in model) == (b in model) for model in found) else "unlike", a, b)
    if word == "cores":
        return ("cores", tried_cores(formula), tried_releases(formula))
    if word == "count":
        return ("count", len(found))
    if word == "count of":
        return ("count of", question[1], len({tuple(model[v - 1] for v in question[1]) for model in found}))
    if word == "met":
        return ("met" if tried_met(formula, question[1]) else "missed", question[1])
    if not found:
        return ("shut", ())
    if word == "fixed":
        return ("fixed", tried_fixed(formula))
    return ("least", question[1], min(tried_loss(question[1], model) for model in found))


def tried_truth(formula, claim):
    """Whether a claim in form is true of the formula, by trying all rows."""
    word = claim[0]
    if word == "core":
        return claim[1] in tried_cores(formula)
    if word == "release":
        return claim[1] in tried_releases(formula)
    return tried_answer(formula, asked_by(claim)) == claim


def asked_by(claim):
    """The question of a claim's kind."""
    word = claim[0]
    if word in ("open", "shut"):
        return ("open", claim[1])
    if word in ("alike", "unlike"):
        return ("alike", claim[1], claim[2])
    if word in ("met", "missed"):
        return ("met", claim[1])
    if word in ("core", "release", "cores"):
        return ("cores",)
    return claim[:1] if word in ("fixed", "count") else claim[:2]


def may_answer(rng, formula, question):
    """Claims that may answer a question, the true one among them."""
    n = formula.n
    word = question[0]
    true = tried_answer(formula, question)
    if word in ("open", "reasons"):
        others = [("open", question[1]), ("shut", question[1])][:2 if word == "open" else 1]
        if word == "reasons":
            others += [("reasons", question[1], tuple(x for x in question[1] if rng.random() < 0.5)) for _ in range(4)]
    elif word == "alike":
        others = [("alike",) + question[1:], ("unlike",) + question[1:]]
    elif word == "met":
        others = [("met", question[1]), ("missed", question[1])]
    elif word == "fixed":
        others = [("shut", ())] + [("fixed", random_row(rng, n)) for _ in range(3)]
    elif word == "cores":
        rows = true[1:]
        others = [("cores", rows[0][1:], rows[1]), ("cores", rows[0], rows[1][1:]), ("cores", (), ((),)), ("cores", ((),), ())]
    elif word == "least":
        others = [("shut", ())] + [("least", question[1], w) for w in range(4)]
    else:
        others = [question + (k,) for k in range(5)]
    return [true] + [other for other in others if other != true]


def random_claim(rng, formula, word):
    """A claim of this kind, true more often than one drawn blindly."""
    n = formula.n
    if word in ("core", "release"):
        rows = (tried_cores if word == "core" else tried_releases)(formula)
        if rows and rng.random() < 0.5:
            return (word, rng.choice(rows))
        return (word, tuple(place for place in range(len(formula) + 1) if rng.random() < 0.3))
    if word in ("shut", "open", "unlike", "alike", "missed", "met"):
        kind = {"shut": "open", "unlike": "alike", "missed": "met"}.get(word, word)
        return (word,) + random_question(rng, n, (kind,))[1:]
    question = random_question(rng, n, (word,))
    claims = [claim for claim in may_answer(rng, formula, question) if claim[0] == word]
    return rng.choice(claims) if claims else random_claim(rng, formula, word)


def slowly_shows_cores(formula, claim, paper):
    refutations, opens = paper
    _, every, freeing = claim
    if every != tried_cores(formula) or freeing != tried_releases(formula):
        return False
    if len(refutations) != len(every) or len(opens) != len(freeing):
        return False
    rests = [[place for place in range(len(formula)) if place not in row] for row in freeing]
    return all(slowly_refutes(formula.only(row), steps) for row, steps in zip(every, refutations)) and all(
        model in tried_models(formula.only(rest)) for rest, model in zip(rests, opens))


def slowly_shows_reasons(formula, claim, paper):
    _, literals, few = claim
    refutation, opens = paper
    row, ahead = tried_reasons(formula, literals)
    if row != few or len(opens) != len(ahead) or not slowly_refutes(formula.under(few), refutation):
        return False
    return all(set(x) <= set(model) and model in tried_models(formula) for x, model in zip(ahead, opens))


def slowly_holds(formula, claim, paper):
    """Whether a paper, which has the form of one of the claim, is one, told as the document tells it."""
    found = tried_models(formula)
    word = claim[0]
    if word == "open":
        return paper in found and set(claim[1]) <= set(paper)
    if word == "shut":
        return slowly_refutes(formula.under(claim[1]), paper)
    if word == "reasons":
        return slowly_shows_reasons(formula, claim, paper)
    if word == "fixed":
        return slowly_shows_fixed(formula, claim[1], paper)
    if word == "alike":
        rows = [tuple(sorted(row, key=abs)) for row in ((claim[1], -claim[2]), (-claim[1], claim[2]))]
        return all(slowly_refutes(formula.under(row), steps) for row, steps in zip(rows, paper)) and len(paper) == 2
    if word == "unlike":
        return paper in found and (claim[1] in paper) != (claim[2] in paper)
    if word == "core":
        return slowly_shows_core(formula, claim[1], paper)
    if word == "release":
        return slowly_shows_release(formula, claim[1], paper)
    if word == "cores":
        return slowly_shows_cores(formula, claim, paper)
    everything = tuple(range(1, formula.n + 1))
    if word == "count":
        return slow_count(formula.n, formula.clauses, everything, paper) == claim[1]
    if word == "count of":
        return slow_count_of(formula, claim[1], paper) == claim[2]
    if word == "least":
        return paper[0] in found and tried_loss(claim[1], paper[0]) == claim[2] and slowly_shows_least(
            formula, claim[1], claim[2], paper[1])
    return slowly_shows_met(formula, word, order_of(claim[1]), (), paper)


def slow_text(value):
    """The text of a value, from Python's own."""
    return repr(value).replace(", ", ",").replace("'", '"')


def slow_value(text):
    """The value whose text this is, or None."""
    try:
        value = ast.literal_eval(text)
    except (ValueError, SyntaxError, MemoryError, RecursionError, TypeError):
        return None
    return value if fits(value, 1) and slow_text(value) == text else None


def fits(value, deep):
    if value.__class__ is tuple:
        return deep <= 60 and all(fits(part, deep + 1) for part in value)
    if value.__class__ is str:
        return value != "" and all(sign in "abcdefghijklmnopqrstuvwxyz " for sign in value)
    return value.__class__ is int and abs(value) < 10 ** 12


class SlowDesk:
    """A desk that keeps its layers in lists, and all that was there ahead of each deed as a copy."""

    def __init__(self, n):
        self.n = n
        self.layers = [[]]
        self.row = ()
        self.answers = []
        self.past = []
        self.undone = []
        self.lines = [f"desk {n}"]

    def here(self):
        clauses = [clause for layer in self.layers for clause in layer]
        return Formula(self.n, clauses + [(x,) for x in self.row])

    def can(self, deed):
        return deed != ("pop",) or len(self.layers) > 1

    def take(self, deed):
        """Does the deed, or undoes or does again for the words undo and redo; whether it can be done."""
        if deed == "undo":
            if not self.past:
                return False
            last, self.layers, self.row = self.past.pop()
            self.undone.append(last)
            return True
        if deed == "redo":
            if not self.undone:
                return False
            undone = self.undone[:-1]
            self.take(self.undone[-1])
            self.undone = undone
            return True
        if not self.can(deed):
            return False
        self.past.append((deed, [list(layer) for layer in self.layers], self.row))
        self.undone = []
        if deed[0] == "put":
            self.layers[-1].append(deed[1])
        elif deed[0] == "push":
            self.layers.append([])
        elif deed[0] == "pop":
            self.layers.pop()
        else:
            self.row = deed[1]
        return True

    def tell(self, line, answers):
        self.answers = answers
        self.lines.append(line)
        for _, claim, paper in answers:
            self.lines += ["claim " + slow_text(claim), "paper " + slow_text(paper)]


def slow_place(text):
    """The place at which a text goes wrong as a history, or None and the desk at its end."""
    lines = text.split("\n")
    starts = [sum(len(line) + 1 for line in lines[:k]) for k in range(len(lines))] + [len(text)]
    number = lines[0][5:]
    if lines[0][:5] != "desk " or slow_value(number) is None or not number.isdigit():
        return 0, None
    desk = SlowDesk(int(number))
    k = 1
    while k < len(lines):
        k, right = slow_event(desk, lines, k)
        if not right:
            return starts[k], None
    return None, desk


def slow_event(desk, lines, k):
    """Leads a slow desk through the event that begins at line k; the line at which the next one begins or that is
    wrong or lacking, and whether all is right."""
    line = lines[k]
    word, _, rest = line.partition(" ")
    value = slow_value(rest)
    watched = [question for question, _, _ in desk.answers]
    if word == "leave":
        if value is None or not any(slow_text(question) == rest for question in watched):
            return k, False
        desk.answers = [answer for answer in desk.answers if answer[0] != value]
        return k + 1, True
    if word == "watch":
        if value is None or not slow_question(value, desk.n) or value in watched:
            return k, False
        asked = [value]
    elif line in ("undo", "redo"):
        asked = watched
        if not desk.take(line):
            return k, False
    else:
        asked = watched
        if word != "deed" or value is None or not slow_deed(value, desk.n) or not desk.take(value):
            return k, False
    k += 1
    answers = []
    for question in asked:
        claim = tried_answer(desk.here(), question)
        if k == len(lines) or lines[k] != "claim " + slow_text(claim):
            return k, False
        k += 1
        paper = slow_value(lines[k][6:]) if k < len(lines) and lines[k][:6] == "paper " else None
        if paper is None or not claim_holds(desk.here(), claim, paper):
            return k, False
        answers.append((question, claim, paper))
        k += 1
    desk.answers = desk.answers + answers if word == "watch" else answers
    return k, True


def slow_row(value, n):
    if value.__class__ is not tuple or not all(x.__class__ is int and 1 <= abs(x) <= n for x in value):
        return False
    return all(abs(x) < abs(y) for x, y in zip(value, value[1:]))


def slow_deed(value, n):
    if value in (("push",), ("pop",)):
        return True
    return value.__class__ is tuple and len(value) == 2 and value[0] in ("put", "assume") and slow_row(value[1], n)


def slow_question(value, n):
    """Whether a value made of tuples, integers and words is a question."""
    if value.__class__ is not tuple or not value or value[0] not in QUESTION_KINDS:
        return False
    word, parts = value[0], value[1:]
    if word in ("fixed", "cores", "count"):
        return parts == ()
    if word == "alike":
        return len(parts) == 2 and all(slow_row((x,), n) for x in parts) and abs(parts[0]) != abs(parts[1])
    if len(parts) != 1 or parts[0].__class__ is not tuple:
        return False
    if word in ("open", "reasons"):
        return slow_row(parts[0], n)
    if word == "count of":
        return slow_row(parts[0], n) and all(v > 0 for v in parts[0])
    if not all(pair.__class__ is tuple and len(pair) == 2 for pair in parts[0]):
        return False
    if word == "least":
        return all(slow_row(row, n) and weight.__class__ is int and weight > 0 for row, weight in parts[0])
    if not all(kind in ("each", "some") and row and slow_row(row, n) for kind, row in parts[0]):
        return False
    return sorted(v for _, row in parts[0] for v in row) == list(range(1, n + 1))


def random_deed(rng, n):
    kind = rng.choice(("put", "put", "put", "push", "pop", "assume"))
    if kind == "put":
        return (kind, random_clause(rng, n, 3))
    if kind == "assume":
        return (kind, random_row(rng, n) if rng.random() < 0.6 else ())
    return (kind,)
