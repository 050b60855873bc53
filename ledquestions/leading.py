"""Steps by rules, backwards: from a question to one that says no more."""

from ledquestions.errors import NoStep
from ledquestions.likeness import put_atom, put_terms
from ledquestions.questions import atoms_terms, unknowns_of
from ledquestions.shapes import is_rising, is_tuple_of, is_whole
from ledquestions.ways import WAY_WORDS, is_number_of


def turned(sort, terms):
    """The terms, changed about where the sort is a turn that sees them from the second one."""
    return terms[::-1] if sort[1:] == (1,) else terms


def seen_terms(sort, atom):
    """The atom's terms as the sort sees them: (t,) for a kind, (t, u) for a turn; None where it's no such atom."""
    if atom[0] != sort[0] or len(atom) != len(sort) + 1:
        return None
    return turned(sort, atom[1:])


def one_for(terms):
    """The term that stands for all these, None where unlike things are among them."""
    things = sorted({term for term in terms if not is_whole(term)})
    if len(things) > 1:
        return None
    return things[0] if things else min(terms)


def merged(columns):
    """A dict of what stands for each term when those of each column become one; None where unlike things would."""
    if len(columns) == 2 and any([term in columns[1] for term in columns[0]]):
        columns = [columns[0] + columns[1]]
    given = {}
    for column in columns:
        one = one_for(column)
        if one is None:
            return None
        for term in column:
            given[term] = one
    return given


def are_free(question, partners):
    """Whether all are unknowns that stand neither in the head nor elsewhere in the atoms than here."""
    head, terms = question[0], atoms_terms(question[1])
    return all([
        is_whole(term) and term not in head and terms.count(term) == partners.count(term) for term in partners
    ])


def columns_of(rule, question, places):
    """The lists of terms that must become one, None where the atoms of the places aren't as the rule says."""
    word, first, second = rule
    seen = [seen_terms(second, question[1][place]) for place in places]
    if word not in WAY_WORDS or None in seen:
        return None
    columns = [[terms[k] for terms in seen] for k in range(len(second))]
    if word == "along" or len(second) == 1:
        return columns
    # The partners go with their atoms, so nothing is left of their becoming one.
    return columns[:1] if are_free(question, columns[1]) else None


def fresh(question):
    """The least number that is no unknown of the question."""
    unknowns = unknowns_of(question)
    return [number for number in range(len(unknowns) + 1) if number not in unknowns][0]


def new_atom(first, terms, question):
    """The atom that a rule's first says of these terms, with a fresh partner where one is wanted."""
    if len(terms) < len(first):
        terms = terms + (fresh(question),)
    return first[:1] + turned(first, terms)


def led_by(rule, question, places):
    """The question led by the rule at these places, None where that is no step."""
    columns = columns_of(rule, question, places)
    given = None if columns is None else merged(columns)
    if given is None:
        return None
    kept = []
    for place, atom in enumerate(question[1]):
        put = put_atom(given, atom)
        if place not in places and put not in kept:
            kept.append(put)
    new = new_atom(rule[1], tuple([given[column[0]] for column in columns]), question)
    if new not in kept:
        kept.append(new)
    return (put_terms(given, question[0]), tuple(kept))


def are_places(question, thing):
    """Whether it is a rising tuple of at least one number of the question's atoms; of anything."""
    if not isinstance(thing, tuple) or not 1 <= len(thing) <= len(question[1]):
        return False
    return all([is_number_of(question[1], place) for place in thing]) and is_rising(thing)


def led_or_none(rules, question, step):
    """The led question, None of anything that is no step."""
    if not is_tuple_of(step, 2) or not is_number_of(rules, step[0]) or not are_places(question, step[1]):
        return None
    return led_by(rules[step[0]], question, step[1])


def led(rules, question, step):
    """The led question; NoStep of anything that is no step for it."""
    told = led_or_none(rules, question, step)
    if told is None:
        raise NoStep("no step for this question")
    return told


def lots_of_places(rule, question):
    """All tuples of places whose atoms are, each by itself, as the rule's second says."""
    found = [()]
    for place, atom in enumerate(question[1]):
        if seen_terms(rule[2], atom) is not None:
            found = found + [places + (place,) for places in found]
    return found[1:]


def all_led(rules, question):
    """Pairs (step, led question) of all steps, in no promised order."""
    found = []
    for number, rule in enumerate(rules):
        for places in lots_of_places(rule, question):
            told = led_by(rule, question, places)
            if told is not None:
                found.append(((number, places), told))
    return found


def steps(rules, question):
    """A rising tuple of all steps for the question."""
    return tuple(sorted([step for step, told in all_led(rules, question)]))
