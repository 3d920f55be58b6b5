"""A row of clauses that come and go, and the values that they force."""


class ClauseRow:
    """Each unlike clause has one bit: then one look at all clauses is a few operations on integers."""

    def __init__(self, clauses):
        self.known = []
        self.bits = {}
        self.many = {}
        self.having = {}
        self.standing = 0
        for clause in clauses:
            self.put(clause)

    def put(self, clause):
        """Lets the clause stand once more."""
        if clause not in self.bits:
            bit = 1 << len(self.known)
            self.known.append(clause)
            self.bits[clause] = bit
            self.many[clause] = 0
            for literal in clause:
                self.having[literal] = self.having.get(literal, 0) | bit
        self.many[clause] += 1
        self.standing = self.standing | self.bits[clause]

    def take(self, clause):
        """Lets the clause, which stands, stand once less."""
        self.many[clause] -= 1
        if self.many[clause] == 0:
            self.standing = self.standing & ~self.bits[clause]

    def has(self, clause):
        """Whether the clause stands."""
        return self.many.get(clause, 0) > 0

    def first(self, bits):
        """The clause of the lowest of these bits."""
        return self.known[(bits & -bits).bit_length() - 1]

    def look(self, true):
        """A pair: some clause all of whose literals are false, or None; the pairs of a literal that is forced next
        and a clause that forces it."""
        # The bits of the clauses with a literal that is not false, and of those that force nothing any more.
        alive = 0
        settled = 0
        for literal, bits in self.having.items():
            if -literal not in true:
                settled = settled | (bits if literal in true else alive & bits)
                alive = alive | bits
        dead = self.standing & ~alive
        if dead:
            return self.first(dead), []
        forcing = self.standing & ~settled
        if not forcing:
            return None, []
        pairs = []
        for literal, bits in self.having.items():
            if bits & forcing and -literal not in true:
                pairs.append((literal, self.first(bits & forcing)))
        return None, pairs

    def spread(self, true):
        """Puts the literals that are forced into the dict true, behind the others, each with a clause that forces it;
        gives some clause all of whose literals are false, or None."""
        while True:
            dead, pairs = self.look(true)
            if dead is not None or not pairs:
                return dead
            for literal, clause in pairs:
                if -literal in true:
                    return clause
                true[literal] = clause

    def brings(self, clause):
        """Whether the clause follows at once from those that stand."""
        return self.spread({-literal: None for literal in clause}) is not None
