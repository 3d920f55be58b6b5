"""Clauses that tell how many of some literals are true."""

from clausehold.clauses import contraries, is_row
from clausehold.errors import InvalidLiterals, InvalidNumber
from clausehold.kinds import is_number


def parity_clauses(literals, bit):
    """The clauses that are true just where the number of true literals leaves bit by 2."""
    if not is_row(literals):
        raise InvalidLiterals(literals)
    if not is_number(bit) or bit > 1:
        raise InvalidNumber(bit)
    clauses = []
    for number in range(1 << len(literals)):
        ones = binary(number, len(literals))
        if sum(ones) % 2 != bit:
            clauses.append(tuple([-literal if one else literal for literal, one in zip(literals, ones)]))
    return tuple(clauses)


def binary(number, many):
    """So many figures of the binary number, the one that counts most ahead."""
    return [(number >> place) & 1 for place in reversed(range(many))]


def at_most_clauses(literals, k, fresh):
    """The pair of clauses by which at most k of the literals are true, and the first variable not used behind fresh."""
    check(literals, k, fresh)
    m = len(literals)
    if k >= m:
        return (), fresh
    if k == 0:
        return tuple([(-literal,) for literal in literals]), fresh
    clauses = [(-literals[0], fresh)] + [(-(fresh + j),) for j in range(1, k)]
    for i in range(1, m - 1):
        clauses.extend(row_clauses(literals[i], k, fresh + (i - 1) * k, fresh + i * k))
    clauses.append((-literals[-1], -(fresh + (m - 1) * k - 1)))
    return tuple(clauses), fresh + (m - 1) * k


def row_clauses(literal, k, ahead, here):
    """The clauses of one literal, the k new variables of the literal ahead of it and its own being numbered from ahead
    and from here on."""
    clauses = [(-literal, here), (-ahead, here)]
    for j in range(1, k):
        clauses.append((-literal, -(ahead + j - 1), here + j))
        clauses.append((-(ahead + j), here + j))
    clauses.append((-literal, -(ahead + k - 1)))
    return clauses


def at_least_clauses(literals, k, fresh):
    """The pair of clauses by which at least k of the literals are true, and the first variable not used behind
    fresh."""
    check(literals, k, fresh)
    if k == 0:
        return (), fresh
    if k > len(literals):
        return ((),), fresh
    return at_most_clauses(contraries(literals), len(literals) - k, fresh)


def check(literals, k, fresh):
    """Raises what is wrong with these."""
    if not is_row(literals):
        raise InvalidLiterals(literals)
    if not is_number(k):
        raise InvalidNumber(k)
    if not is_number(fresh) or fresh == 0 or any([abs(literal) >= fresh for literal in literals]):
        raise InvalidNumber(fresh)
