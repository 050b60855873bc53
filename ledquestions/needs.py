"""Led questions for which a least lot must have questions of their own, so that too many can be told early."""

from ledquestions.bounds import UNKNOWNS
from ledquestions.folding import folded_lines
from ledquestions.growth import Growth
from ledquestions.joins import found_by, joined_matches
from ledquestions.likeness import fitted, least_form, put_atom, put_terms
from ledquestions.questions import unknowns_of


def name_counts(question):
    """A dict of how many atoms of each name, and of so many terms, the question has."""
    found = {}
    for atom in question[1]:
        key = (atom[0], len(atom))
        found[key] = found.get(key, 0) + 1
    return found


class Needs:
    """Finds led questions no two of which can lie within one that the question is led to."""

    # Where the answer of a led question isn't sure by fewer of its atoms, taken as rows, whatever it lies within
    # becomes all of them, so has the same names, each at least as often, and no more atoms than the question.

    def __init__(self, rules, question):
        self.growth = Growth(rules)
        self.question = question
        self.many = min(len(unknowns_of(question)), UNKNOWNS)
        self.whole = {}

    def is_sure(self, rows, answer):
        """Whether the answer may be sure by these rows: there is a world where it's none if this is False."""
        given = fitted({}, self.question[0], answer)
        atoms = [put_atom(given, atom) for atom in self.question[1]]
        lines = folded_lines(self.growth, rows, self.many)
        return len(joined_matches(found_by(lines), ((), atoms))) > 0

    def needs_all(self, question):
        """Whether the answer of a led question isn't sure by fewer of its atoms, taken as rows."""
        given = {unknown: f"?{unknown}" for unknown in unknowns_of(question)}
        rows = [put_atom(given, atom) for atom in question[1]]
        answer = put_terms(given, question[0])
        return not any([self.is_sure([row for row in rows if row != out], answer) for out in rows])

    def are_parted(self, ones, others):
        """Whether no question to which it is led has just the names of both, each at least as often as either."""
        if any([name not in others for name in ones]) or any([name not in ones for name in others]):
            return True
        return sum([max([ones[name], others[name]]) for name in ones]) > len(self.question[1])

    def stays_whole(self, number, question):
        """Whether a led question, known by its number, needs all its atoms."""
        if number not in self.whole:
            self.whole[number] = self.needs_all(question)
        return self.whole[number]

    def outnumber(self, most, numbered):
        """Whether more than most of the led questions, given with their numbers, need questions of their own."""
        counted = []
        for number, question in numbered:
            form = least_form(question)
            counts = name_counts(form)
            if all([self.are_parted(counts, other) for other in counted]) and self.stays_whole(number, form):
                counted.append(counts)
            if len(counted) > most:
                return True
        return False
