"""The search for the first model, or for a refutation."""

from clausehold.clauserow import ClauseRow
from clausehold.clauses import clause_of


class Search:
    """Values that are guessed and forced, and the clauses that are learned where they clash."""

    def __init__(self, clauses):
        self.row = ClauseRow(clauses)
        self.variables = sorted({abs(literal): True for clause in clauses for literal in clause})
        # The literals that are true, in the order in which they became so, each with the clause that forced it.
        self.true = {}
        # For each of these how many guesses had been made by then.
        self.heights = {}
        self.height = 0

    def spread(self):
        """Forces values to the end; gives a clause all of whose literals are false, or None."""
        clash = self.row.spread(self.true)
        for literal in self.true:
            if literal not in self.heights:
                self.heights[literal] = self.height
        return clash

    def guess(self):
        """Makes the first variable without a value true; whether there was one."""
        # What a guess forces is forced by the guesses ahead of it alone, all on lesser variables, each tried as true:
        # so the first model that is found is the first of all.
        for v in self.variables:
            if v not in self.true and -v not in self.true:
                self.height += 1
                self.true[v] = None
                self.heights[v] = self.height
                return True
        return False

    def lesson(self, clash):
        """A clause that follows at once and would have kept the last guess from coming to this clash."""
        causes = {-literal: True for literal in clash}
        for literal in reversed(list(self.true)):
            if literal not in causes:
                continue
            if len([x for x in causes if self.heights[x] == self.height]) == 1:
                break
            del causes[literal]
            for other in self.true[literal]:
                if other != literal:
                    causes[-other] = True
        return clause_of([-x for x in causes if self.heights[x] > 0])

    def learn(self, clause):
        """Puts the clause to the others, and takes guesses back to where it forces a literal."""
        heights = [self.heights[-literal] for literal in clause]
        self.height = max([height for height in heights if height < self.height], default=0)
        self.row.put(clause)
        for literal in list(self.true):
            if self.heights[literal] > self.height:
                del self.true[literal]
                del self.heights[literal]

    def model(self, n):
        """The row of values that has been found; what stands in no clause is true."""
        return tuple([-v if -v in self.true else v for v in range(1, n + 1)])


def searched(formula):
    """The pair of the first model and None, or of None and a refutation."""
    search = Search(formula.clauses)
    steps = []
    while True:
        clash = search.spread()
        if clash is None:
            if not search.guess():
                return search.model(formula.n), None
        elif search.height == 0:
            return None, tuple(steps + [("add", ())])
        else:
            clause = search.lesson(clash)
            steps.append(("add", clause))
            search.learn(clause)
