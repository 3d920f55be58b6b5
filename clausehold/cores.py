"""Cores, the clauses that are at odds with one another, and releases, those that must go."""

from clausehold.errors import Undefined
from clausehold.formulas import are_rising_places
from clausehold.hitting import bits_of, crossed, in_order, least_hits, places_of
from clausehold.kinds import is_plain, is_tuple_of
from clausehold.models import is_model
from clausehold.refutations import is_refutation
from clausehold.search import searched
from clausehold.solving import is_open


def cores(formula):
    """All cores, in order."""
    return sought(formula)[0]


def releases(formula):
    """All releases, in order."""
    return sought(formula)[1]


def sought(formula):
    """The pair of all cores and all releases, each in order."""
    shut = []
    hits = [0]
    freeing = {}
    # A least row that meets all cores known so far is a release, or leaves a core that is not known yet.
    while len(freeing) < len(hits):
        hit = [bits for bits in hits if bits not in freeing][0]
        places = others(formula, places_of(hit))
        if is_open(formula.only(places)):
            freeing[hit] = True
        else:
            shut.append(shrunk(formula, places))
            hits = crossed(hits, bits_of(shut[-1]))
    return in_order(shut), in_order([places_of(hit) for hit in hits])


def others(formula, places):
    """The places of clauses that are not among these."""
    return tuple([place for place in range(len(formula)) if place not in places])


def shrunk(formula, places):
    """A core among these places, whose clauses are shut."""
    core = places
    for place in places:
        fewer = tuple([other for other in core if other != place])
        if not is_open(formula.only(fewer)):
            core = fewer
    return core


def one_less(places):
    """For each of places, in order, the row of the others."""
    return [places[:at] + places[at + 1:] for at in range(len(places))]


def one_more(formula, places):
    """For each of places, in order, the row of it and of all that are not among places."""
    return [others(formula, fewer) for fewer in one_less(places)]


def cores_claim(formula):
    """The claim that tells all cores and all releases."""
    every, freeing = sought(formula)
    return ("cores", every, freeing)


def cores_paper(formula):
    """Some paper of that claim."""
    every, freeing = sought(formula)
    refutations = [searched(formula.only(core))[1] for core in every]
    opens = [searched(formula.only(others(formula, places)))[0] for places in freeing]
    return tuple(refutations), tuple(opens)


def core_paper(formula, places):
    """Some paper of the claim that places is a core."""
    paper = core_shown(formula, places)
    if paper is None:
        raise Undefined("core")
    return paper


def core_shown(formula, places):
    """Some paper of the claim that places, which may be any value, is a core; None if it is none."""
    if not is_place_row(places, formula):
        return None
    _, refutation = searched(formula.only(places))
    opens = [searched(formula.only(fewer))[0] for fewer in one_less(places)]
    return None if refutation is None or None in opens else (refutation, tuple(opens))


def release_paper(formula, places):
    """Some paper of the claim that places is a release."""
    paper = release_shown(formula, places)
    if paper is None:
        raise Undefined("release")
    return paper


def release_shown(formula, places):
    """Some paper of the claim that places, which may be any value, is a release; None if it is none."""
    if not is_place_row(places, formula):
        return None
    model, _ = searched(formula.only(others(formula, places)))
    refutations = [searched(formula.only(more))[1] for more in one_more(formula, places)]
    return None if model is None or None in refutations else (model, tuple(refutations))


def is_place_row(value, formula):
    """Whether value, which may be any value, is a strictly rising tuple of places of clauses."""
    return isinstance(value, tuple) and are_rising_places(value, formula.clauses)


def cores_holds(formula, claim, paper):
    """Whether claim is one of core, release or cores, and paper a paper of it."""
    if not is_plain(claim) or not is_plain(paper) or not is_tuple_of(paper, 2):
        return False
    if is_tuple_of(claim, 2) and is_place_row(claim[1], formula):
        if claim[0] == "core":
            return core_holds(formula, claim[1], paper)
        return claim[0] == "release" and release_holds(formula, claim[1], paper)
    if is_tuple_of(claim, 3) and claim[0] == "cores":
        return all_hold(formula, claim[1], claim[2], paper)
    return False


def core_holds(formula, places, paper):
    """Whether paper is a pair that shows places to be a core."""
    refutation, opens = paper
    return are_open(formula, one_less(places), opens) and is_refutation(formula.only(places), refutation)


def release_holds(formula, places, paper):
    """Whether paper is a pair that shows places to be a release."""
    model, refutations = paper
    if not is_model(formula.only(others(formula, places)), model):
        return False
    return are_shut(formula, one_more(formula, places), refutations)


def all_hold(formula, every, freeing, paper):
    """Whether every and freeing, any values, are rows of places that paper, a pair, shows to be all cores and all
    releases."""
    for rows in (every, freeing):
        if not isinstance(rows, tuple) or not all([is_place_row(row, formula) for row in rows]):
            return False
    refutations, opens = paper
    if not are_open(formula, [others(formula, places) for places in freeing], opens):
        return False
    if not are_shut(formula, every, refutations):
        return False
    return freeing == least_hits(every) and every == least_hits(freeing)


def are_open(formula, rows, opens):
    """Whether opens, which may be any value, has a model of the clauses of each of these rows of places."""
    if not is_tuple_of(opens, len(rows)):
        return False
    return all([is_model(formula.only(row), model) for row, model in zip(rows, opens)])


def are_shut(formula, rows, refutations):
    """Whether refutations, which may be any value, has a refutation of the clauses of each of these rows of places."""
    if not is_tuple_of(refutations, len(rows)):
        return False
    return all([is_refutation(formula.only(row), steps) for row, steps in zip(rows, refutations)])
