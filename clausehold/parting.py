"""Rows of clauses taken smaller by a literal, or parted into groups that have no variable in common."""


def by_literal(clauses, literal):
    """The clauses when literal is true: those with it are gone, the others lose the contrary."""
    return tuple([tuple([x for x in clause if x != -literal]) for clause in clauses if literal not in clause])


def parted(clauses):
    """The groups of clauses, none of them empty, that have a common variable, each as small as can be, by their first
    clauses."""
    groups = []
    while clauses:
        group = first_group(clauses)
        groups.append(group)
        clauses = tuple([clause for clause in clauses if clause not in group])
    return groups


def first_group(clauses):
    """The clauses of the group of the first one, in order."""
    variables = {abs(literal): True for literal in clauses[0]}
    while True:
        near = [clause for clause in clauses if any([abs(literal) in variables for literal in clause])]
        wider = {abs(literal): True for clause in near for literal in clause}
        if len(wider) == len(variables):
            return tuple(near)
        variables = wider
