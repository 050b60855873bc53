"""A desk: a book and standing questions, kept under edits."""

from ledquestions.books import look_rows, look_rules
from ledquestions.bounds import DEEDS, LINES, NONE
from ledquestions.clashing import look_clash
from ledquestions.deeds import asked_as, changes, done, look_deed, look_deeds
from ledquestions.errors import AskError, Broken, Long, Missing, Nothing
from ledquestions.papers import answer_paper
from ledquestions.texts import book_text


class Desk:
    """A book and standing questions under names; its deeds tell whose sure answers they change."""

    def __init__(self, *, rules=NONE, rows=NONE):
        look_rules(rules)
        look_rows(rows)
        look_clash((rules, rows))
        self.state = (rules, rows, ())
        self.past = []
        self.entries = []

    def __eq__(self, other):
        return isinstance(other, Desk) and self.book() == other.book() and self.asked() == other.asked()

    def __len__(self):
        return len(self.past)

    def __str__(self):
        return str(book_text(self.book()))

    def put(self, row):
        """Put a row to the others; NoRow, Twice, TooGreat, Clash."""
        return self.done_alone("put", (row,))

    def drop(self, row):
        """Take a row away; Missing."""
        return self.done_alone("drop", (row,))

    def learn(self, rule):
        """Put a rule behind the others; NoRule, Twice, TooGreat, Clash, TooMany."""
        return self.done_alone("learn", (rule,))

    def forget(self, rule):
        """Take a rule away; Missing, TooMany."""
        return self.done_alone("forget", (rule,))

    def ask(self, name, question):
        """Let a question stand under a name; NoName, Twice, NoQuestion, TooGreat, TooMany."""
        return self.done_alone("ask", (name, question))

    def unask(self, name):
        """Take a standing question away; Missing."""
        return self.done_alone("unask", (name,))

    def batch(self, deeds):
        """Do the deeds one behind another, wholly or not at all; NoDeeds, Broken."""
        self.note(("in", "batch"))
        try:
            self.look_long()
            look_deeds(deeds)
            after = self.done_in_order(deeds)
        except AskError:
            self.note(("out", "batch", False))
            raise
        self.note(("out", "batch", True))
        return self.stand(after)

    def back(self):
        """Take the last deed or batch back that stands; Nothing."""
        self.note(("in", "back"))
        good = len(self.past) > 0
        self.note(("out", "back", good))
        if not good:
            raise Nothing("nothing stands")
        before = self.state
        self.state = self.past.pop()
        return changes(before, self.state)

    def book(self):
        """The book."""
        return self.state[:2]

    def asked(self):
        """A rising tuple of pairs of a name and the question that stands under it."""
        return tuple([entry[:2] for entry in self.state[2]])

    def answers(self, name):
        """The sure answers of a standing question; Missing."""
        return self.entry_of(name)[3]

    def paper(self, name):
        """An answer paper of a standing question; Missing."""
        return answer_paper(self.book(), self.entry_of(name)[1])

    def log(self):
        """A list of what has been going on: both ends of each call, the last LINES of them."""
        return list(self.entries)

    def entry_of(self, name):
        """What is kept of the question that stands under the name, which may be anything; Missing."""
        entry = asked_as(self.state, name)
        if entry is None:
            raise Missing("no such name")
        return entry

    def note(self, entry):
        """Write an entry into the log, of which only the last LINES are kept."""
        self.entries = (self.entries + [entry])[-LINES:]

    def look_long(self):
        """Refuse with Long where as many deeds and batches stand as may."""
        if len(self.past) >= DEEDS:
            raise Long("too many deeds and batches stand")

    def stand(self, after):
        """Let a deed or batch stand, behind which the state is this one; its changes."""
        before = self.state
        self.past.append(before)
        self.state = after
        return changes(before, after)

    def done_alone(self, word, things):
        """Do a deed that is in no batch."""
        self.note(("in", word))
        try:
            self.look_long()
            after = done(self.state, word, things)
        except AskError:
            self.note(("out", word, False))
            raise
        self.note(("out", word, True))
        return self.stand(after)

    def done_within(self, state, deed):
        """The state behind a deed of a batch, which may be anything."""
        look_deed(deed)
        word = deed[0]
        self.note(("in", word))
        try:
            after = done(state, word, deed[1:])
        except AskError:
            self.note(("out", word, False))
            raise
        self.note(("out", word, True))
        return after

    def done_in_order(self, deeds):
        """The state behind all deeds of a batch; Broken with the number of the first that is refused."""
        state = self.state
        for number, deed in enumerate(deeds):
            try:
                state = self.done_within(state, deed)
            except AskError as refused:
                raise Broken(number) from refused
        return state
