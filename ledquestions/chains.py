"""Chains: lines from rows by rules that show why an answer is sure."""

from ledquestions.answering import is_answer
from ledquestions.bounds import LOT
from ledquestions.clashing import look_clash
from ledquestions.errors import NotSure
from ledquestions.joins import found_by, joined_matches
from ledquestions.leading import columns_of, merged, new_atom, seen_terms, turned
from ledquestions.likeness import become_some_of, given_by, put_atom, put_terms
from ledquestions.lots import grown_lot
from ledquestions.questions import unknowns_of
from ledquestions.shapes import is_tuple_of, is_whole
from ledquestions.ways import WAY_WORDS, is_number_of
from ledquestions.worlds import is_line


def follows(rule, ahead, line, taken):
    """Whether the line comes by the rule of one ahead; the keys of the dict are all terms that stand ahead."""
    word, first, second = rule
    given, told = seen_terms(first, ahead), seen_terms(second, line)
    if word not in WAY_WORDS or given is None or told is None:
        return False
    if word == "along":
        return told == given
    return told[0] == given[0] and (len(told) == 1 or (is_whole(told[1]) and told[1] not in taken))


def is_founded(book, lines, number, taken):
    """Whether the pair of this number has a line and why it stands, where all ahead are right; of anything as it."""
    rules, rows = book
    if not is_tuple_of(lines[number], 2) or not is_line(lines[number][0]):
        return False
    line, why = lines[number]
    if why == ():
        return line in rows
    if not is_tuple_of(why, 2) or not is_number_of(rules, why[0]) or not is_whole(why[1]) or not 0 <= why[1] < number:
        return False
    return follows(rules[why[0]], lines[why[1]][0], line, taken)


def are_founded(book, thing):
    """Whether it is the lines of a chain, each with why it stands; of anything."""
    if not isinstance(thing, tuple):
        return False
    taken = {}
    for number in range(len(thing)):
        if not is_founded(book, thing, number, taken):
            return False
        for term in thing[number][0][1:]:
            taken[term] = True
    return True


def is_chain(book, question, answer, thing):
    """Whether it is a chain of the answer; of anything as the answer and the thing."""
    if not is_answer(answer) or not is_tuple_of(thing, 2) or not are_founded(book, thing[0]):
        return False
    given = given_by(question, thing[1])
    if given is None or put_terms(given, question[0]) != answer:
        return False
    return become_some_of(given, question[1], {line: True for line, why in thing[0]})


class Linking:
    """A chain that grows from a match in the rows, step by step, back to the question that was asked."""

    def __init__(self):
        self.pairs = []
        self.numbers = {}
        self.size = 0

    def link(self, line, why):
        """Write the line unless it's there."""
        if line not in self.numbers:
            self.numbers[line] = len(self.pairs)
            self.pairs.append((line, why))

    def unlead(self, rule, step, question, given):
        """From a match of a led question a match of the one ahead of it, with the line that the step stands for."""
        word, first, second = rule
        columns = columns_of(rule, question, step[1])
        ones = merged(columns)
        terms = tuple([ones[column[0]] for column in columns])
        ahead = put_atom(given, new_atom(first, terms, question))
        put = put_terms(given, terms)
        if len(put) < len(second):
            put = put + (self.size,)
            self.size += 1
        self.link(second[:1] + turned(second, put), (step[0], self.numbers[ahead]))
        found = {}
        for unknown in unknowns_of(question):
            one = ones.get(unknown, unknown)
            # An unknown that went with the step was a partner that the rule gives.
            found[unknown] = given.get(one, put[-1]) if is_whole(one) else one
        return found


def linked_back(rules, triples, number, given):
    """The chain that a match, in the rows, of the question of this number in a lot gives for the lot's first."""
    linking = Linking()
    for atom in triples[number][0][1]:
        linking.link(put_atom(given, atom), ())
    while number > 0:
        told, ahead, step = triples[number]
        given = linking.unlead(rules[step[0]], step, triples[ahead][0], given)
        number = ahead
    return (tuple(linking.pairs), tuple([(unknown, given[unknown]) for unknown in unknowns_of(triples[0][0])]))


class Reasons:
    """The sure answers of a question, each with a match by which it's sure; Clash, TooMany."""

    def __init__(self, book, question):
        look_clash(book)
        self.rules = book[0]
        growing = grown_lot(book[0], question, LOT)
        self.triples = growing.triples
        self.told = {}
        found = found_by(book[1])
        for number in growing.shelf.stock:
            led = growing.triples[number][0]
            for given in joined_matches(found, led):
                self.told.setdefault(put_terms(given, led[0]), (number, given))

    def chain_of(self, answer):
        """A chain of a sure answer."""
        number, given = self.told[answer]
        return linked_back(self.rules, self.triples, number, given)


def chain(book, question, answer):
    """A chain of the answer, which may be anything; Clash, TooMany, NotSure."""
    reasons = Reasons(book, question)
    if not is_answer(answer) or answer not in reasons.told:
        raise NotSure("no sure answer")
    return reasons.chain_of(answer)
