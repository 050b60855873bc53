"""A shelf of questions none of which lies within another, and how few a least lot can have."""

from ledquestions.likeness import lies_within
from ledquestions.shapes import is_whole
from ledquestions.ways import WAY_WORDS


def marks_wanted(question):
    """What each atom asks of the atom that it becomes: things and places of the head keep where they are."""
    head, atoms = question
    found = []
    for atom in atoms:
        labels = [head.index(term) if term in head else None if is_whole(term) else term for term in atom[1:]]
        found.append((atom[0], len(set(atom[1:])) < len(atom) - 1) + tuple(labels))
    return found


def labels_had(head, term):
    """All that the term may be asked to be."""
    found = [None] + [place for place, other in enumerate(head) if other == term]
    return found if is_whole(term) else found + [term]


def marks_had(question):
    """All that atoms may ask of an atom that they become and some atom of the question has."""
    head, atoms = question
    found = []
    for atom in atoms:
        twice = len(set(atom[1:])) < len(atom) - 1
        marks = [(atom[0], False), (atom[0], True)] if twice else [(atom[0], False)]
        for term in atom[1:]:
            marks = [mark + (label,) for mark in marks for label in labels_had(head, term)]
        found = found + marks
    return found


class Shelf:
    """Questions under numbers, none of which lies within another."""

    def __init__(self):
        self.bits = {}
        self.stock = {}

    def bits_of(self, marks):
        """A number with one bit for each mark; the same mark has the same bit always."""
        found = 0
        for mark in marks:
            found = found | self.bits.setdefault(mark, 1 << len(self.bits))
        return found

    def is_over(self, question):
        """Whether the question lies within one that stands here."""
        had = self.bits_of(marks_had(question))
        # Few pass the bits, and only for them a likeness is sought.
        near = [other for other, wanted, theirs in self.stock.values() if wanted & had == wanted]
        for other in near:
            if lies_within(question, other):
                return True
        return False

    def take(self, number, question):
        """Put a question here, in the place of all that lie within it."""
        wanted = self.bits_of(marks_wanted(question))
        for other in list(self.stock):
            theirs = self.stock[other]
            if wanted & theirs[2] == wanted and lies_within(theirs[0], question):
                del self.stock[other]
        self.stock[number] = (question, wanted, self.bits_of(marks_had(question)))

    def offer(self, number, question):
        """Take the question if it lies within none that stands here; whether it was taken."""
        if self.is_over(question):
            return False
        self.take(number, question)
        return True


def names_under(rules, atom):
    """All pairs (name, how many terms) of atoms that may come of the atom by steps."""
    found = {(atom[0], len(atom) - 1): True}
    many = 0
    while many < len(found):
        many = len(found)
        for word, first, second in rules:
            if word in WAY_WORDS and (second[0], len(second)) in found:
                found[(first[0], len(first))] = True
    return found


def trails(rules, question):
    """For each atom the names that may come of it, and the places of the head whose terms it has."""
    head = question[0]
    return [
        (names_under(rules, atom), [place for place, term in enumerate(head) if term in atom[1:]])
        for atom in question[1]
    ]


def names_on(trail, question):
    """The names of the trail of which the led question has an atom with the same places of its head."""
    names, places = trail
    head, atoms = question
    there = [atom for atom in atoms if all([head[place] in atom[1:] for place in places])]
    return {(atom[0], len(atom) - 1): True for atom in there if (atom[0], len(atom) - 1) in names}


def are_parted(ones, others):
    """Whether on some trail they have no name in common."""
    return any([not any([name in other for name in one]) for one, other in zip(ones, others)])


class Tally:
    """Counts led questions no two of which can lie within one."""

    # An atom that goes in a step has the new one in its place, with all that it had of the head, whose terms
    # are never partners that go. So each led question has a name on each trail, and whatever lies within it has
    # the same name there, too. Two that are parted on a trail therefore need two questions of a least lot.

    def __init__(self, rules, question):
        self.trails = trails(rules, question)
        self.counted = []

    def count_in(self, question):
        """Count the question if it is parted from all counted; how many are counted then."""
        told = [names_on(trail, question) for trail in self.trails]
        if all([are_parted(told, other) for other in self.counted]):
            self.counted.append(told)
        return len(self.counted)
