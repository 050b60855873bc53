"""Answer papers: a chain for each sure answer, and a world in which there are no others."""

from ledquestions.chains import Reasons, is_chain
from ledquestions.folding import world
from ledquestions.questions import unknowns_of
from ledquestions.shapes import is_tuple_of
from ledquestions.worlds import holds_book, world_answers


def is_chained(book, question, thing):
    """Whether it is a pair of an answer and a chain of it; of anything."""
    return is_tuple_of(thing, 2) and is_chain(book, question, thing[0], thing[1])


def is_answer_paper(book, question, thing):
    """Whether it is an answer paper; of anything."""
    if not is_tuple_of(thing, 2) or not isinstance(thing[0], tuple):
        return False
    chains, lines = thing
    if not all([is_chained(book, question, pair) for pair in chains]) or not holds_book(book, lines):
        return False
    # A world's answers are rising, so those that are the same are, too.
    return world_answers(lines, question) == tuple([pair[0] for pair in chains])


def answer_paper(book, question):
    """An answer paper of a short question; Clash, TooMany."""
    reasons = Reasons(book, question)
    chains = tuple([(answer, reasons.chain_of(answer)) for answer in sorted(reasons.told)])
    return (chains, world(book, many=len(unknowns_of(question))))
