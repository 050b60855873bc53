"""Sure answers, and the rows by which they are sure."""

from ledquestions.books import look_book
from ledquestions.bounds import NONE
from ledquestions.clashing import look_clash
from ledquestions.errors import NotSure
from ledquestions.joins import found_by, grown, linked, unknowns_in
from ledquestions.likeness import fitted, put_atom
from ledquestions.lots import led_questions
from ledquestions.plain import plain_answers
from ledquestions.questions import look_question
from ledquestions.shapes import is_name
from ledquestions.shorts import look_shorts, written_out


def answers(book, question, *, shorts=NONE):
    """A rising tuple of the sure answers; of anything, with the refusals in the order in which they stand here."""
    look_book(book)
    look_shorts(shorts)
    look_question(question)
    asked = written_out(shorts, question)
    look_clash(book)
    return plain_answers(book[1], led_questions(book[0], asked))


def is_answer(thing):
    """Whether it is a tuple of names; of anything."""
    return isinstance(thing, tuple) and all([is_name(part) for part in thing])


def with_row(rows, row):
    """A rising tuple of the rows and this one."""
    return rows if row in rows else tuple(sorted(rows + (row,)))


def used_rows(found, question, answer):
    """All lots of rows, each once, that a match of the question with this answer has in the places of its atoms."""
    start = fitted({}, question[0], answer)
    if start is None:
        return []
    atoms = [atom for part in linked(question[1]) for atom in part]
    states = {(tuple(start.items()), ()): True}
    for place, atom in enumerate(atoms):
        # What is asked for nowhere behind is let go, so that many matches become few.
        wanted = unknowns_in(atoms[place + 1:])
        more = {}
        for pairs, rows in states:
            for fit in grown(found, dict(pairs), atom):
                kept = tuple([(term, fit[term]) for term in wanted if term in fit])
                more[(kept, with_row(rows, put_atom(fit, atom)))] = True
        states = more
    return [rows for kept, rows in states]


def parts_of(rows):
    """All tuples of some of the rows, in their order, but not of all."""
    found = [()]
    for row in rows:
        found = found + [some + (row,) for some in found]
    return found[:-1]


def supports(book, question, answer):
    """A rising tuple of the least lots of rows by which the answer is sure; Clash, TooMany, NotSure."""
    look_clash(book)
    rules, rows = book
    asked = led_questions(rules, question)
    if not is_answer(answer):
        raise NotSure("no tuple of names")
    found = found_by(rows)
    lots = {some: True for one in asked for some in used_rows(found, one, answer)}
    if not lots:
        raise NotSure("no sure answer")
    return tuple(sorted([some for some in lots if not any([fewer in lots for fewer in parts_of(some)])]))
