"""The tree of a book: a world in which each thing has just the partners that the rules want."""

from ledquestions.bounds import DEPTH, GROWN
from ledquestions.clashing import clash, look_clash
from ledquestions.errors import TooGreat
from ledquestions.growth import Growth
from ledquestions.shapes import is_same, is_tuple_of, is_turn
from ledquestions.worlds import is_standing, is_told_world


def tree(book, *, depth=DEPTH):
    """A tuple of the tree's lines down to the depth and of triples, one for each unnamed thing; Clash, TooGreat."""
    look_clash(book)
    rules, rows = book
    growth = Growth(rules)
    lines, grown = growth.named_lines(rows), []
    layer = list(growth.named_turns(rows).items())
    level = 0
    while layer and level < depth:
        more = []
        for term, turns in layer:
            for turn in turns:
                number = len(grown)
                if number == GROWN:
                    raise TooGreat("too many unnamed things")
                grown.append((number, term, turn))
                lines.extend(growth.partner_lines(turn, term, number))
                more.append((number, growth.next_turns(turn)))
        layer = more
        level += 1
    return (tuple(lines), tuple(grown))


class Regrown:
    """A tree grown once more by triples that somebody tells; due are the turns whose partners are still to come."""

    def __init__(self, book, depth):
        self.growth = Growth(book[0])
        self.depth = depth
        self.found = {line: True for line in self.growth.named_lines(book[1])}
        self.level = {}
        self.due = {}
        for thing, turns in self.growth.named_turns(book[1]).items():
            self.place(thing, 0, turns)

    def place(self, term, level, turns):
        """Put a thing here, with what is due to it unless it is as deep as can be."""
        self.level[term] = level
        if level < self.depth:
            for turn in turns:
                self.due[(term, turn)] = True

    def takes(self, number, thing):
        """Whether the thing, which may be anything, is a triple for a partner that is due; then it's grown."""
        if not is_tuple_of(thing, 3) or not is_same(thing[0], number):
            return False
        term, turn = thing[1:]
        if not is_standing(term) or not is_turn(turn) or (term, turn) not in self.due:
            return False
        del self.due[(term, turn)]
        for line in self.growth.partner_lines(turn, term, number):
            self.found[line] = True
        self.place(number, self.level[term] + 1, self.growth.next_turns(turn))
        return True


def is_tree(book, depth, thing):
    """Whether it is the tree of the book down to the depth, in any order; of anything. False where the book clashes."""
    if clash(book) is not None or not is_tuple_of(thing, 2) or not isinstance(thing[1], tuple):
        return False
    regrown = Regrown(book, depth)
    for number, triple in enumerate(thing[1]):
        if not regrown.takes(number, triple):
            return False
    lines = thing[0]
    if regrown.due or not is_told_world(lines) or len(lines) != len(regrown.found):
        return False
    return all([line in regrown.found for line in lines])
