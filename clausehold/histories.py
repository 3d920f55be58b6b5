"""The texts of desks' histories: whether they hold, what they end with, and desks that are led through them."""

from clausehold.claims import answer_of, claim_holds, is_question
from clausehold.desk import Desk, is_deed
from clausehold.errors import InvalidText
from clausehold.figures import number_told
from clausehold.told import told, value_in


def paper_holds(text):
    """Whether the text is the history of some desk."""
    return Story(text).read() is not None


def paper_end(text):
    """The pair of what questions are asked of and what is watched, at the history's end."""
    desk = relived(text)
    return desk.here(), desk.watched()


def relived(text):
    """A desk that was led through the history."""
    story = Story(text)
    desk = story.read()
    if desk is None:
        raise InvalidText(text, story.place())
    return desk


class Story:
    """A history that is read line by line."""

    def __init__(self, text):
        self.text = text
        self.lines = text.split("\n")
        # How many of the lines have been read and are right.
        self.many = 0

    def place(self):
        """The place at which the first line begins that is not read, or the text's end."""
        return min(sum([len(line) + 1 for line in self.lines[:self.many]]), len(self.text))

    def read(self):
        """A desk that is led through all lines; None where one is wrong or lacking, those ahead of it being read."""
        n = number_told(self.lines[0][5:]) if self.begins("desk ") else None
        if n is None:
            return None
        desk = Desk(n)
        self.many = 1
        while self.many < len(self.lines):
            if not self.read_event(desk):
                return None
        return desk

    def begins(self, word):
        """Whether there is a next line, and it begins with this word."""
        return self.many < len(self.lines) and self.lines[self.many].startswith(word)

    def value_behind(self, word):
        """The value that the next line tells behind this word, or None."""
        if not self.begins(word):
            return None
        value, _ = value_in(self.lines[self.many][len(word):])
        return value

    def read_event(self, desk):
        """Leads the desk through what the next lines tell of; whether they are right."""
        if self.begins("watch "):
            return self.read_watch(desk)
        if self.begins("leave "):
            return self.read_leave(desk)
        return self.read_change(desk)

    def read_watch(self, desk):
        """Lets the desk watch a question with the paper that is told; whether the lines are right."""
        question = self.value_behind("watch ")
        if not is_question(question, desk.n) or desk.watches(question):
            return False
        self.many += 1
        answer = self.read_answer(desk.here(), question)
        if answer is None:
            return False
        desk.begin(question, answer[0], answer[1])
        return True

    def read_leave(self, desk):
        """Lets the desk leave a question; whether the line is right."""
        question = self.value_behind("leave ")
        if not desk.watches(question):
            return False
        self.many += 1
        desk.leave(question)
        return True

    def read_change(self, desk):
        """Lets the desk do, undo or redo a deed, with the papers that are told; whether the lines are right."""
        line = self.lines[self.many]
        if not self.can_change(desk, line):
            return False
        self.many += 1
        here = desk.here()
        answers = {}
        for question in desk.watched():
            answers[question] = self.read_answer(here, question)
            if answers[question] is None:
                return False
        desk.settle(line, answers)
        return True

    def can_change(self, desk, line):
        """Lets the desk do what the line tells, but settles nothing; whether it can."""
        if line == "undo":
            return desk.take_back()
        if line == "redo":
            return desk.take_again()
        deed = self.value_behind("deed ")
        return is_deed(deed, desk.n) and desk.take_new(deed)

    def read_answer(self, here, question):
        """The pair of the question's claim and a paper of it, as the next two lines tell them; None if they do not."""
        if self.many == len(self.lines):
            return None
        claim = answer_of(here, question)
        if self.lines[self.many] != "claim " + told(claim):
            return None
        self.many += 1
        paper = self.value_behind("paper ")
        if paper is None or not claim_holds(here, claim, paper):
            return None
        self.many += 1
        return claim, paper
