"""Answers of questions in lines: rows, or lines with numbers for things without a name."""

from ledquestions.likeness import fitted, put_terms
from ledquestions.shapes import is_whole


def line_keys(line):
    """The keys under which the line is found: its name, also with each of its terms at its place."""
    whole = (line[0], len(line))
    return [whole] + [whole + (place, term) for place, term in enumerate(line[1:])]


def found_by(lines):
    """A dict of the lines' terms by their keys."""
    found = {}
    for line in lines:
        for key in line_keys(line):
            found.setdefault(key, []).append(line[1:])
    return found


def atom_key(given, atom):
    """A key under which all lines stand that the atom may become."""
    whole = (atom[0], len(atom))
    for place, term in enumerate(atom[1:]):
        if not is_whole(term):
            return whole + (place, term)
        if term in given:
            return whole + (place, given[term])
    return whole


def unknowns_in(atoms):
    """The unlike unknowns of the atoms, as they come."""
    return list({term: True for atom in atoms for term in atom[1:] if is_whole(term)})


def linked(atoms):
    """The atoms, parted into lists whose unknowns have nothing in common; in each list one hangs on those ahead."""
    parts = []
    left = list(atoms)
    while left:
        part, more = [], left[:1]
        while more:
            part = part + more
            left = [atom for atom in left if atom not in more]
            there = unknowns_in(part)
            more = [atom for atom in left if any([term in there for term in atom[1:]])][:1]
        parts.append(part)
    return parts


def grown(found, given, atom):
    """All dicts to which the dict grows so that the atom becomes a line."""
    fits = [fitted(given, atom[1:], terms) for terms in found.get(atom_key(given, atom), [])]
    return [fit for fit in fits if fit is not None]


def are_named(given, head):
    """Whether what the dict gives for the head's unknowns are names."""
    return all([isinstance(given[term], str) for term in head if term in given])


def part_matches(found, head, atoms):
    """Dicts of what the unknowns of these atoms become, one for each way in which the head's become names."""
    givens = [{}]
    for place, atom in enumerate(atoms):
        # Matches that are the same for all that is asked for behind and for the head are as good as one.
        wanted = unknowns_in(atoms[place + 1:]) + list(head)
        more = {}
        for given in givens:
            for fit in grown(found, given, atom):
                if are_named(fit, head):
                    more.setdefault(tuple([fit.get(term) for term in wanted]), fit)
        givens = list(more.values())
    return givens


def joined_matches(found, question):
    """Dicts of what a question's unknowns become in lines, found by their keys, at least one for each named answer."""
    head, atoms = question
    givens = [{}]
    for part in linked(atoms):
        told = part_matches(found, head, part)
        givens = [{**given, **other} for given in givens for other in told]
    return givens


def joined_answers(found, question):
    """The answers of a question in lines, found by their keys, that have names alone in them; some perhaps twice."""
    return [put_terms(given, question[0]) for given in joined_matches(found, question)]
