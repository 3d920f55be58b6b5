"""Questions and claims of every kind, their answers and their papers."""

from clausehold.clauses import are_rising_variables, is_clause, is_literal
from clausehold.cores import core_shown, cores_claim, cores_holds, cores_paper, release_shown
from clausehold.counting import (
    count_claim, count_holds, count_of_claim, count_of_holds, count_of_paper, count_paper,
)
from clausehold.errors import InvalidClaim, InvalidQuestion
from clausehold.fixed import alike_claim, alike_holds, alike_paper, fixed_claim, fixed_holds, fixed_paper
from clausehold.kinds import is_number
from clausehold.prefixes import is_prefix, met_claim, met_holds, met_paper
from clausehold.reasons import reasons, reasons_holds, reasons_paper
from clausehold.solving import is_open, open_claim, open_holds, open_paper
from clausehold.wishes import are_wishes, least_claim, least_holds, least_paper

# What each kind of question has behind its word.
QUESTIONS = {
    "open": ("row",),
    "reasons": ("row",),
    "fixed": (),
    "alike": ("literal", "literal"),
    "cores": (),
    "count": (),
    "count of": ("variables",),
    "least": ("wishes",),
    "met": ("prefix",),
}

# What each kind of claim has behind its word: first what the question has that it answers.
CLAIMS = {
    "open": ("row",),
    "shut": ("row",),
    "reasons": ("row", "row"),
    "fixed": ("row",),
    "alike": ("literal", "literal"),
    "unlike": ("literal", "literal"),
    "core": ("places",),
    "release": ("places",),
    "cores": ("rows of places", "rows of places"),
    "count": ("number",),
    "count of": ("variables", "number"),
    "least": ("wishes", "number"),
    "met": ("prefix",),
    "missed": ("prefix",),
}

# The kind of question that a kind of claim answers, where its word is another one.
ASKED = {"shut": "open", "unlike": "alike", "core": "cores", "release": "cores", "missed": "met"}


def is_question(value, n):
    """Whether value is a question for formulas of n variables."""
    return begins_with_word(value) and value[0] in QUESTIONS and has_parts(value, QUESTIONS[value[0]], n)


def is_claim(value, n):
    """Whether value is a claim for formulas of n variables, of a kind that answers questions or tells one core or
    release."""
    return begins_with_word(value) and value[0] in CLAIMS and has_parts(value, CLAIMS[value[0]], n)


def begins_with_word(value):
    """Whether value, which may be any value, is a tuple that begins with a string."""
    return isinstance(value, tuple) and len(value) > 0 and isinstance(value[0], str)


def has_parts(value, kinds, n):
    """Whether a tuple of any values behind its word has parts of these kinds for n variables."""
    if len(value) != 1 + len(kinds) or not all([is_part(kind, part, n) for kind, part in zip(kinds, value[1:])]):
        return False
    return value[0] not in ("alike", "unlike") or abs(value[1]) != abs(value[2])


def is_part(kind, value, n):
    """Whether value, which may be any value, is a part of this kind."""
    if kind == "number":
        return is_number(value)
    if kind == "literal":
        return is_literal(value, n)
    if kind == "row":
        return is_clause(value, n)
    if kind == "variables":
        return isinstance(value, tuple) and are_rising_variables(value, n)
    if kind == "wishes":
        return are_wishes(value, n)
    if kind == "prefix":
        return is_prefix(value, n)
    if kind == "places":
        return are_places(value)
    return isinstance(value, tuple) and all([are_places(row) for row in value]) and are_in_order(value)


def are_places(value):
    """Whether value, which may be any value, is a strictly rising tuple of numbers."""
    if not isinstance(value, tuple) or not all([is_number(place) for place in value]):
        return False
    return all([place < behind for place, behind in zip(value, value[1:])])


def are_in_order(rows):
    """Whether rows of places come by length, then member by member, none of them twice."""
    keys = [(len(row), row) for row in rows]
    return all([key < behind for key, behind in zip(keys, keys[1:])])


def answer_of(formula, question):
    """The one claim that answers the question and is true of formula."""
    check(formula, question)
    word = question[0]
    if word == "open":
        return open_claim(formula, question[1])
    if word == "reasons":
        return reasons_answer(formula, question[1])
    if word == "fixed":
        return fixed_claim(formula)
    if word == "alike":
        return alike_claim(formula, question[1], question[2])
    if word == "cores":
        return cores_claim(formula)
    if word == "count":
        return count_claim(formula)
    if word == "count of":
        return count_of_claim(formula, question[1])
    if word == "least":
        return least_claim(formula, question[1])
    return met_claim(formula, question[1])


def paper_of(formula, question):
    """Some paper of that claim."""
    check(formula, question)
    word = question[0]
    if word == "reasons" and not is_open(formula.under(question[1])):
        return reasons_paper(formula, question[1])
    if word in ("open", "reasons"):
        return open_paper(formula, question[1])
    if word == "fixed":
        return fixed_paper(formula)
    if word == "alike":
        return alike_paper(formula, question[1], question[2])
    if word == "cores":
        return cores_paper(formula)
    if word == "count":
        return count_paper(formula)
    if word == "count of":
        return count_of_paper(formula, question[1])
    if word == "least":
        return least_paper(formula, question[1])
    return met_paper(formula, question[1])


def check(formula, question):
    """Raises what is wrong with the question."""
    if not is_question(question, formula.n):
        raise InvalidQuestion(question)


def reasons_answer(formula, literals):
    """The claim that tells the reasons, or that there are none."""
    if is_open(formula.under(literals)):
        return ("open", literals)
    return ("reasons", literals, reasons(formula, literals))


def claim_holds(formula, claim, paper):
    """Whether claim is a claim for formula of a kind that is_claim knows, and paper a paper of it."""
    if not is_claim(claim, formula.n):
        return False
    word = claim[0]
    if word in ("open", "shut"):
        return open_holds(formula, claim, paper)
    if word == "reasons":
        return reasons_holds(formula, claim, paper)
    if word == "fixed":
        return fixed_holds(formula, claim, paper)
    if word in ("alike", "unlike"):
        return alike_holds(formula, claim, paper)
    if word in ("core", "release", "cores"):
        return cores_holds(formula, claim, paper)
    if word == "count":
        return count_holds(formula, claim, paper)
    if word == "count of":
        return count_of_holds(formula, claim, paper)
    if word == "least":
        return least_holds(formula, claim, paper)
    return met_holds(formula, claim, paper)


def refute(formula, claim):
    """None if the claim is true of formula; otherwise the answer to its question, and some paper of that."""
    if not is_claim(claim, formula.n):
        raise InvalidClaim(claim)
    if is_true(formula, claim):
        return None
    question = question_for(claim)
    return answer_of(formula, question), paper_of(formula, question)


def is_true(formula, claim):
    """Whether a claim for formula is true of it."""
    if claim[0] == "core":
        return core_shown(formula, claim[1]) is not None
    if claim[0] == "release":
        return release_shown(formula, claim[1]) is not None
    return answer_of(formula, question_for(claim)) == claim


def question_for(claim):
    """The question of the claim's kind, with those of the claim's parts that it has."""
    word = ASKED.get(claim[0], claim[0])
    return (word,) + claim[1:1 + len(QUESTIONS[word])]
