"""Matches and answers in the rows alone."""

from ledquestions.joins import found_by, joined_answers
from ledquestions.likeness import become_some_of, given_by
from ledquestions.questions import unknowns_of


def is_match(rows, question, match):
    """Whether it is a match of the question in the rows; of anything as the match."""
    given = given_by(question, match)
    return given is not None and become_some_of(given, question[1], rows)


def plain_answers(rows, questions):
    """A rising tuple of the answers that some of the questions has in the rows."""
    found = found_by(rows)
    return tuple(sorted({answer for question in questions for answer in joined_answers(found, question)}))


def matches(rows, question):
    """A rising tuple of all matches of a short question in the rows."""
    unknowns = unknowns_of(question)
    return tuple([tuple(zip(unknowns, things)) for things in plain_answers(rows, ((unknowns, question[1]),))])
