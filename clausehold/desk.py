"""A desk on which clauses are put and taken off in layers, and asked about under assumptions."""

from clausehold.claims import answer_of, claim_holds, is_question, paper_of
from clausehold.clauses import is_clause
from clausehold.errors import Empty, InvalidNumber, InvalidQuestion, InvalidStep, NothingToUndo
from clausehold.formulas import Formula
from clausehold.kinds import is_number, is_tuple_of
from clausehold.told import told


class Desk:
    """Layers of clauses, a row of literals that is assumed, and questions that are watched."""

    def __init__(self, n):
        if not is_number(n):
            raise InvalidNumber(n)
        self.n = n
        self.layers = ((),)
        self.row = ()
        # For each watched question, in order, the pair of its answer and a paper of it.
        self.answers = {}
        # The deeds done, each with the layers and the row ahead of it, and those undone, the last one undone behind.
        self.past = []
        self.undone = []
        # The lines of the history.
        self.lines = ["desk " + told(n)]

    def formula(self):
        """The formula of all clauses, layer by layer."""
        return Formula(self.n, [clause for layer in self.layers for clause in layer])

    def depth(self):
        """How many layers there are above the first."""
        return len(self.layers) - 1

    def assumed(self):
        """The row of literals that is assumed."""
        return self.row

    def here(self):
        """The formula under what is assumed, of which all questions are asked."""
        return self.formula().under(self.row)

    def deed(self, deed):
        """Does a deed; reports what it does to the watched questions."""
        if not is_deed(deed, self.n):
            raise InvalidStep(deed)
        if not self.take_new(deed):
            raise Empty("layer")
        return self.report("deed " + told(deed))

    def undo(self):
        """Undoes the last deed done; reports."""
        if not self.take_back():
            raise NothingToUndo("undo")
        return self.report("undo")

    def redo(self):
        """Does the deed again that was undone last; reports."""
        if not self.take_again():
            raise NothingToUndo("redo")
        return self.report("redo")

    def done(self):
        """The deeds done and not undone, in order."""
        return tuple([deed for deed, _, _ in self.past])

    def watch(self, question):
        """Watches the question from now on; gives its claim."""
        if not is_question(question, self.n):
            raise InvalidQuestion(question)
        if not self.watches(question):
            here = self.here()
            self.begin(question, answer_of(here, question), paper_of(here, question))
        return self.claim(question)

    def leave(self, question):
        """Watches the question no longer."""
        self.check(question)
        del self.answers[question]
        self.lines.append("leave " + told(question))

    def watched(self):
        """The questions that are watched, in order."""
        return tuple(self.answers)

    def claim(self, question):
        """The claim that answers a watched question."""
        self.check(question)
        return self.answers[question][0]

    def paper_for(self, question):
        """The paper of that claim."""
        self.check(question)
        return self.answers[question][1]

    def paper(self):
        """The text of the history."""
        return "\n".join(self.lines)

    def watches(self, question):
        """Whether the question, which may be any value, is watched."""
        # Asked first whether it is one, for True is equal to 1, and a list cannot be looked up.
        return is_question(question, self.n) and question in self.answers

    def check(self, question):
        """Raises what is wrong with a question that should be watched."""
        if not self.watches(question):
            raise InvalidQuestion(question)

    def take_new(self, deed):
        """Does a deed, but tells nothing of it; whether it can be done."""
        if not self.take(deed):
            return False
        self.undone = []
        return True

    def take(self, deed):
        """As take_new, but what has been undone stays."""
        layers = layers_behind(self.layers, deed)
        if layers is None:
            return False
        self.past.append((deed, self.layers, self.row))
        self.layers = layers
        if deed[0] == "assume":
            self.row = deed[1]
        return True

    def take_back(self):
        """Undoes the last deed done, but tells nothing of it; whether there was one."""
        if not self.past:
            return False
        deed, layers, row = self.past.pop()
        self.undone.append(deed)
        self.layers = layers
        self.row = row
        return True

    def take_again(self):
        """Does the deed again that was undone last, but tells nothing of it; whether there was one."""
        if not self.undone:
            return False
        return self.take(self.undone.pop())

    def begin(self, question, claim, paper):
        """Watches a question from now on, with this answer."""
        self.answers[question] = (claim, paper)
        self.lines.append("watch " + told(question))
        self.lines.extend(answer_lines(claim, paper))

    def report(self, line):
        """Asks the watched questions anew and settles it; gives for each a triple of it, a word and its claim."""
        here = self.here()
        triples = []
        answers = {}
        for question, (claim, paper) in self.answers.items():
            now = answer_of(here, question)
            word = "changed"
            if now == claim:
                word = "kept" if claim_holds(here, claim, paper) else "renewed"
            triples.append((question, word, now))
            answers[question] = (now, paper if word == "kept" else paper_of(here, question))
        self.settle(line, answers)
        return tuple(triples)

    def settle(self, line, answers):
        """Tells a line, and lets these be the answers from now on."""
        self.answers = answers
        self.lines.append(line)
        for claim, paper in answers.values():
            self.lines.extend(answer_lines(claim, paper))


def is_deed(value, n):
    """Whether value, which may be any value, is a deed with fitting parts for n variables."""
    if is_tuple_of(value, 1):
        return value[0] in ("push", "pop")
    return is_tuple_of(value, 2) and value[0] in ("put", "assume") and is_clause(value[1], n)


def layers_behind(layers, deed):
    """The layers behind a deed, or None for a pop of the first."""
    if deed[0] == "put":
        return layers[:-1] + (layers[-1] + (deed[1],),)
    if deed[0] == "push":
        return layers + ((),)
    if deed[0] == "pop":
        return layers[:-1] if len(layers) > 1 else None
    return layers


def answer_lines(claim, paper):
    """The lines that tell an answer."""
    return ["claim " + told(claim), "paper " + told(paper)]


def same_state(one, other):
    """Whether two desks have equal n, layers, assumed rows, watched questions in order, claims and done deeds."""
    if one.n != other.n or one.layers != other.layers or one.assumed() != other.assumed():
        return False
    return one.done() == other.done() and claims_on(one) == claims_on(other)


def claims_on(desk):
    """The pairs of a watched question and its claim, in order."""
    return [(question, desk.claim(question)) for question in desk.watched()]
