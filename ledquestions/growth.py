"""What grows from named things by rules: lines, and partners without a name."""

from ledquestions.books import row_sorts
from ledquestions.leading import turned
from ledquestions.shapes import is_turn, other_way
from ledquestions.ways import above, turns_above


class Growth:
    """What the rules let grow; what is asked again is looked up."""

    def __init__(self, rules):
        self.rules = rules
        self.sorts = {}
        self.turns = {}
        self.sprouts = {}

    def sorts_above(self, sort):
        """All sorts to which there's a way from the sort."""
        if sort not in self.sorts:
            self.sorts[sort] = above(self.rules, sort)
        return self.sorts[sort]

    def pair_turns(self, turn):
        """All turns of which a pair of the turn is."""
        if turn not in self.turns:
            self.turns[turn] = turns_above(self.rules, turn)
        return self.turns[turn]

    def pair_lines(self, turn, one, other):
        """The lines by which a pair is of the turn and of all turns above it."""
        return [there[:1] + turned(there, (one, other)) for there in self.pair_turns(turn)]

    def kind_lines(self, sort, thing):
        """The lines by which a thing of the sort is of all kinds above it."""
        return [there + (thing,) for there in self.sorts_above(sort) if len(there) == 1]

    def first_ones(self, turns):
        """Of the turns by which partners are wanted a rising tuple of those by which one grows."""
        # Partners by the others come with these, the pair being of all turns above.
        found = []
        for turn in turns:
            ahead = [other for other in turns if other != turn and turn in self.pair_turns(other)]
            if all([other in self.pair_turns(turn) and turn < other for other in ahead]):
                found.append(turn)
        return tuple(sorted(found))

    def next_turns(self, turn):
        """The turns by which partners of a thing grow that is itself a partner by this turn."""
        if turn not in self.sprouts:
            back = other_way(turn)
            had = self.pair_turns(back)
            wanted = [sort for sort in self.sorts_above(back) if is_turn(sort) and sort not in had]
            self.sprouts[turn] = self.first_ones(wanted)
        return self.sprouts[turn]

    def partner_lines(self, turn, one, other):
        """The lines that come with the other as a new partner of one by the turn."""
        return self.pair_lines(turn, one, other) + self.kind_lines(other_way(turn), other)

    def row_lines(self, row):
        """The lines over named things that come of a row, itself among them."""
        found = [row] if len(row) == 2 else self.pair_lines((row[0], 0), row[1], row[2])
        for sort, thing in row_sorts(row):
            found = found + self.kind_lines(sort, thing)
        return found

    def named_lines(self, rows):
        """The lines over named things that come of the rows, none twice."""
        return list({line: True for row in rows for line in self.row_lines(row)})

    def named_turns(self, rows):
        """A dict of the named things, each with the turns by which partners of it grow."""
        sorts = {}
        for row in rows:
            for sort, thing in row_sorts(row):
                sorts.setdefault(thing, []).append(sort)
        return {thing: self.wanted_by(sorts[thing]) for thing in sorts}

    def wanted_by(self, sorts):
        """The turns by which partners grow of a named thing that is of just these sorts by rows."""
        # A thing has a partner by a turn just where some turn of a row leads there by along rules.
        had = {turn: True for sort in sorts if is_turn(sort) for turn in self.pair_turns(sort)}
        there = {sort: True for start in sorts for sort in self.sorts_above(start)}
        return self.first_ones([sort for sort in there if is_turn(sort) and sort not in had])
