"""A finite world of a book: its tree, with what is alike far down taken as one."""

from ledquestions.bounds import UNKNOWNS
from ledquestions.clashing import look_clash
from ledquestions.growth import Growth


class Folded:
    """A world that grows like the tree; below the depth kept, things are told apart by their last turns alone."""

    # So much is kept that a question with few unknowns can't go round where the tree wouldn't, nor see from one
    # thing up two ways at whose ends the tree would have two unlike things.

    def __init__(self, growth, many):
        self.growth = growth
        self.kept = max(1, (many + 1) // 2)
        self.rest = max(3, many + 1)
        self.found = {}
        self.numbers = {}
        self.waiting = []
        self.size = 0

    def write(self, lines):
        """Take the lines into the world."""
        for line in lines:
            self.found[line] = True

    def plant(self, rows):
        """Take the named things into the world."""
        self.write(self.growth.named_lines(rows))
        for thing, turns in self.growth.named_turns(rows).items():
            self.waiting.append((thing, turns, (), 0))

    def new_number(self):
        """A number for a thing more."""
        self.size += 1
        return self.size - 1

    def sprout(self, term, turn, turns, depth):
        """Grow a partner of the term by the turn, unless one is there that may be taken for it."""
        turns = (turns + (turn,))[-self.kept:]
        # Deeper than kept, depths count by their rest alone.
        depth = depth + 1 if depth < self.kept + self.rest else self.kept + 1
        there = self.numbers.get((turns, depth))
        number = self.new_number() if there is None else there
        self.write(self.growth.partner_lines(turn, term, number))
        if depth > self.kept:
            self.numbers[(turns, depth)] = number
        if there is None:
            self.waiting.append((number, self.growth.next_turns(turn), turns, depth))

    def grow_up(self):
        """Grow until nobody wants a partner."""
        while self.waiting:
            term, wanted, turns, depth = self.waiting.pop(0)
            for turn in wanted:
                self.sprout(term, turn, turns, depth)


def folded_lines(growth, rows, many):
    """The lines of a world with these rows that answers, of named things, no more than it must by so many unknowns."""
    folded = Folded(growth, many)
    folded.plant(rows)
    folded.grow_up()
    return tuple(folded.found)


def world(book, *, many=UNKNOWNS):
    """A told world that keeps the book and has no more named answers to questions of so many unknowns; Clash."""
    look_clash(book)
    return folded_lines(Growth(book[0]), book[1], many)
