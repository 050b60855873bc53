"""Lots of led questions: closed ones, and the least that say as much."""

from ledquestions.bounds import LOT
from ledquestions.errors import TooMany
from ledquestions.leading import all_led, led_or_none
from ledquestions.likeness import least_form, put_atom, put_terms
from ledquestions.needs import Needs
from ledquestions.questions import unknowns_of
from ledquestions.shapes import is_same, is_tuple_of, is_whole
from ledquestions.shelves import Shelf, Tally


def gathered(questions):
    """A shelf of those questions that lie within no other one, of several that say the same the first."""
    shelf = Shelf()
    for number, question in enumerate(questions):
        shelf.offer(number, question)
    return shelf


def shelved(shelf):
    """The questions that stand on the shelf."""
    return [question for question, wanted, had in shelf.stock.values()]


def is_closed(rules, questions):
    """Whether whatever step there is for one of the questions leads to one that lies within one of them."""
    # A step for a question within another leads to what lies within that one or what a step of it leads to.
    # So the steps of those on the shelf are enough.
    shelf = gathered(questions)
    for question in shelved(shelf):
        for step, told in all_led(rules, question):
            if not shelf.is_over(told):
                return False
    return True


def is_led_triple(rules, thing, number):
    """Whether the part of this number is a triple led from one ahead of it, where all ahead are right."""
    if not is_tuple_of(thing[number], 3):
        return False
    question, ahead, step = thing[number]
    if not is_whole(ahead) or not 0 <= ahead < number:
        return False
    told = led_or_none(rules, thing[ahead][0], step)
    return told is not None and is_same(question, told)


def right_lot(rules, question, thing):
    """Whether it is a closed lot of the question; of anything."""
    if not isinstance(thing, tuple) or len(thing) == 0 or not is_same(thing[0], (question, -1, ())):
        return False
    for number in range(1, len(thing)):
        if not is_led_triple(rules, thing, number):
            return False
    return is_closed(rules, [triple[0] for triple in thing])


def rough_form(question):
    """A question alike; many that are alike have the same, so that little is looked at twice."""
    head, atoms = question
    atoms = sorted(atoms, key=lambda atom: atom[:1])
    given = {}
    for terms in [head] + [atom[1:] for atom in atoms]:
        for term in terms:
            if is_whole(term):
                given.setdefault(term, len(given))
    return (put_terms(given, head), tuple(sorted([put_atom(given, atom) for atom in atoms], key=str)))


def rank(question):
    """Tells which questions are led on first, the least: those that are likely to lie within no other one."""
    # Else thousands may be led on, only to lie within one of few atoms that is found in the end.
    return (len(question[1]), -len(unknowns_of(question)))


class Growing:
    """A lot that grows step by step."""

    def __init__(self, rules, question, most):
        self.rules = rules
        self.most = most
        self.tally = Tally(rules, question)
        self.needs = Needs(rules, question)
        self.look_at = most + 1
        self.shelf = Shelf()
        self.met = {}
        self.triples = []
        self.waiting = {}
        self.bring(question, -1, ())

    def bring(self, question, ahead, step):
        """Take a led question into the lot, unless it lies within one that's there."""
        form = rough_form(question)
        if form in self.met:
            return
        self.met[form] = True
        number = len(self.triples)
        if not self.shelf.offer(number, question):
            return
        self.triples.append((question, ahead, step))
        if self.tally.count_in(question) > self.most:
            raise TooMany("a least lot has too many questions")
        self.waiting.setdefault(rank(question), []).append(number)

    def next_number(self):
        """The number of the next question to lead on, None where there is none."""
        if not self.waiting:
            return None
        least = min(list(self.waiting))
        number = self.waiting[least].pop(0)
        if not self.waiting[least]:
            del self.waiting[least]
        return number

    def look_needs(self):
        """Refuse with TooMany where so many questions need some of their own that no more can help."""
        # It is slow, so it waits until there are enough questions, and then until there are twice as many.
        if len(self.shelf.stock) < self.look_at:
            return
        self.look_at = 2 * len(self.shelf.stock)
        if self.needs.outnumber(self.most, [(number, self.triples[number][0]) for number in self.shelf.stock]):
            raise TooMany("a least lot has too many questions")

    def grow(self):
        """Lead on until the lot is closed."""
        number = self.next_number()
        while number is not None:
            if number in self.shelf.stock:
                for step, told in all_led(self.rules, self.triples[number][0]):
                    self.bring(told, number, step)
                self.look_needs()
            number = self.next_number()
        if len(self.shelf.stock) > self.most:
            raise TooMany("a least lot has too many questions")


def grown_lot(rules, question, most):
    """A closed lot of the question, grown; TooMany where a least one has more than most questions."""
    growing = Growing(rules, question, most)
    growing.grow()
    return growing


def lot(rules, question, *, most=LOT):
    """A closed lot of the question; TooMany where a least one has more than most questions."""
    return tuple(grown_lot(rules, question, most).triples)


def led_questions(rules, question):
    """Questions that ask of the rows alone what the question asks by the rules; TooMany above LOT."""
    return shelved(grown_lot(rules, question, LOT).shelf)


def least_lot(questions):
    """Least forms of some of the questions, none within another, within which all of them lie."""
    return tuple([least_form(question) for question in shelved(gathered(questions))])


def same_lots(ones, others):
    """Whether each question of either lies within one of the other."""
    one, other = gathered(ones), gathered(others)
    return all([other.is_over(question) for question in ones]) and all([one.is_over(question) for question in others])
