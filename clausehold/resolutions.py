"""Refutations trimmed to the steps that they need, and told line by line as resolutions."""

from clausehold.clauserow import ClauseRow
from clausehold.clauses import clause_of
from clausehold.errors import InvalidStep
from clausehold.formulas import is_place
from clausehold.kinds import is_plain, is_tuple_of
from clausehold.refutations import is_refutation


def trimmed(formula, steps):
    """A refutation of some of the adds of steps, none of which can be left out."""
    if not is_refutation(formula, steps):
        raise InvalidStep(steps)
    if () in formula.clauses:
        return (("add", ()),)
    row = ClauseRow(formula.clauses)
    added = added_once(row, steps)
    kept = row.standing
    # From the last add to the first: what a later one needs once it still needs when more of the earlier ones are gone.
    bases = {(): base(row, (), kept)}
    for clause in reversed(added[:-1]):
        bit = row.bits[clause]
        others = other_bases(row, bases, kept & ~bit)
        if others is None:
            bases[clause] = base(row, clause, kept)
        else:
            bases = others
            kept = kept & ~bit
    return tuple([("add", clause) for clause in added if clause in bases])


def added_once(row, steps):
    """The clauses that steps add, each the first time that it does not stand in row, to the first empty one; puts them
    into row."""
    added = []
    for word, clause in steps:
        if word == "add" and not row.has(clause):
            row.put(clause)
            added.append(clause)
            if not clause:
                break
    return added


def other_bases(row, bases, kept):
    """Bases of the same clauses that lie within the bits of kept, or None if a clause has none."""
    others = {}
    for clause, bits in bases.items():
        others[clause] = bits if bits & ~kept == 0 else base(row, clause, kept)
        if others[clause] is None:
            return None
    return others


def base(row, clause, kept):
    """The bits of clauses of kept, all put into row ahead of clause, from which it follows at once; None without."""
    row.standing = kept & (row.bits[clause] - 1)
    found = derivation(row, clause)
    if found is None:
        return None
    clash, links = found
    bits = row.bits[clash]
    for _, reason in links:
        bits = bits | row.bits[reason]
    return bits


def derivation(row, clause):
    """How clause follows at once from those that stand in row: a clause all of whose literals come to be false, and
    pairs of a literal and the clause that forces it, as far as they are needed, the last forced first; None if it
    does not follow."""
    true = {-literal: None for literal in clause}
    clash = row.spread(true)
    if clash is None:
        return None
    needed = {-literal: True for literal in clash}
    links = []
    for literal in reversed(list(true)):
        reason = true[literal]
        if literal in needed and reason is not None:
            links.append((literal, reason))
            for other in reason:
                needed[-other] = True
    return clash, links


def resolution(formula, steps):
    """Some resolution that steps, a refutation, lead to; () if the formula has the empty clause."""
    needed = trimmed(formula, steps)
    if () in formula.clauses:
        return ()
    row = ClauseRow(formula.clauses)
    lines = {}
    for line, clause in enumerate(formula.clauses):
        lines.setdefault(clause, line)
    rows = []
    for _, clause in needed:
        row.put(resolved(row, clause, lines, len(formula), rows))
    return tuple(rows)


def resolved(row, clause, lines, ahead, rows):
    """A clause of literals of clause alone that resolution leads to; puts the triples that it takes behind rows, and
    their clauses into lines. There are so many lines ahead of the first triple."""
    now, links = derivation(row, clause)
    for literal, reason in links:
        result = resolvent(reason, now) if literal > 0 else resolvent(now, reason)
        if result not in lines:
            i, j = (lines[reason], lines[now]) if literal > 0 else (lines[now], lines[reason])
            lines[result] = ahead + len(rows)
            rows.append((result, i, j))
        now = result
    return now


def resolvent(one, other):
    """The clause of all other literals of both, if there is just one variable that one has and whose contrary other
    has; None otherwise."""
    clashing = [literal for literal in one if literal > 0 and -literal in other]
    if len(clashing) != 1:
        return None
    v = clashing[0]
    return clause_of([literal for literal in one if literal != v] + [literal for literal in other if literal != -v])


def resolution_holds(formula, rows):
    """Whether rows, which may be any value, is a resolution of formula."""
    if not isinstance(rows, tuple) or not is_plain(rows):
        return False
    lines = list(formula.clauses)
    for row in rows:
        if not is_tuple_of(row, 3) or not is_resolved(row, lines):
            return False
        lines.append(row[0])
    return lines[-1] == () if rows else () in lines


def is_resolved(row, lines):
    """Whether row tells a clause and two places of lines of which it is the resolvent."""
    clause, i, j = row
    return is_place(i, lines) and is_place(j, lines) and clause == resolvent(lines[i], lines[j])
