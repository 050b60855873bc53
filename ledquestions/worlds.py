"""Told worlds: whether a thing is one, whether rules are so in it, and what it answers."""

from ledquestions.books import NEVER_BOTH, TURN_WORDS, row_sorts
from ledquestions.joins import found_by, joined_answers
from ledquestions.shapes import is_name, is_tuple_of, is_whole


def is_standing(thing):
    """Whether it is a thing of a world, a name or a number from 0 on; of anything."""
    return is_name(thing) or (is_whole(thing) and thing >= 0)


def is_line(thing):
    """Whether it is a line; of anything."""
    if not is_tuple_of(thing, 2) and not is_tuple_of(thing, 3):
        return False
    return is_name(thing[0]) and all([is_standing(part) for part in thing[1:]])


def is_told_world(thing):
    """Whether it is a told world; of anything."""
    if not isinstance(thing, tuple) or not all([is_line(line) for line in thing]):
        return False
    return len(set(thing)) == len(thing)


def members(lines):
    """A dict of sorts, each with a dict whose keys are the tuples (x,) of what is of it."""
    found = {}
    for line in lines:
        for sort, whose in row_sorts(line):
            found.setdefault(sort, {})[(whose,)] = True
    return found


def pairs(lines):
    """A dict of turns, each with a dict whose keys are the pairs that are of it."""
    found = {}
    for line in lines:
        if len(line) == 3:
            found.setdefault((line[0], 0), {})[line[1:]] = True
            found.setdefault((line[0], 1), {})[(line[2], line[1])] = True
    return found


def wrong_by(rule, told):
    """The terms by which the rule isn't so, where the dict tells the terms of each of its sorts or turns."""
    word, first, second = rule
    others = told.get(second, {})
    return [terms for terms in told.get(first, {}) if (terms in others) == (word in NEVER_BOTH)]


def breach(rules, lines):
    """None if all rules are so in a told world; else the number of the first that isn't, and terms by which."""
    singles, doubles = members(lines), pairs(lines)
    for number, rule in enumerate(rules):
        wrong = wrong_by(rule, doubles if rule[0] in TURN_WORDS else singles)
        if wrong:
            return (number, wrong[0])
    return None


def keeps(rules, lines):
    """Whether all rules are so in a told world."""
    return breach(rules, lines) is None


def world_answers(lines, question):
    """A rising tuple of the answers of a short question in a told world that have no number in them."""
    return tuple(sorted(set(joined_answers(found_by(lines), question))))


def holds_book(book, lines):
    """Whether the lines, which may be anything, are a told world with all rows in which all rules are so."""
    rules, rows = book
    if not is_told_world(lines):
        return False
    there = {line: True for line in lines}
    return all([row in there for row in rows]) and keeps(rules, lines)
