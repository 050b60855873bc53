"""Answers of questions in lines: rows, or lines with numbers for things without a name."""

from ledquestions.likeness import fitted, put_terms
from ledquestions.shapes import is_whole


def line_keys(line):
    """The keys under which the line is found: its name, also with each of its terms at its place."""
    whole = (line[0], len(line))
    return [whole] + [whole + (place, term) for place, term in enumerate(line[1:])]


def found_by(lines):
    """A dict of the lines' terms by their keys."""
    found = {}
    for line in lines:
        for key in line_keys(line):
            found.setdefault(key, []).append(line[1:])
    return found


def atom_key(given, atom):
    """A key under which all lines stand that the atom may become."""
    whole = (atom[0], len(atom))
    for place, term in enumerate(atom[1:]):
        if not is_whole(term):
            return whole + (place, term)
        if term in given:
            return whole + (place, given[term])
    return whole


def unknowns_in(atoms):
    """The unlike unknowns of the atoms, as they come."""
    return list({term: True for atom in atoms for term in atom[1:] if is_whole(term)})


def linked(atoms):
    """The atoms, parted into lists whose unknowns have nothing in common; in each list one hangs on those ahead."""
    parts = []
    left = list(atoms)
    while left:
        part, more = [], left[:1]
        while more:
            part = part + more
            left = [atom for atom in left if atom not in more]
            there = unknowns_in(part)
            more = [atom for atom in left if any([term in there for term in atom[1:]])][:1]
        parts.append(part)
    return parts


def grown(found, given, atom):
    """All dicts to which the dict grows so that the atom becomes a line."""
    fits = [fitted(given, atom[1:], terms) for terms in found.get(atom_key(given, atom), [])]
    return [fit for fit in fits if fit is not None]


def are_named(given, head):
    """Whether what the dict gives for the head's unknowns are names."""
    return all([isinstance(given[term], str) for term in head if term in given])


def part_answers(found, head, atoms):
    """Dicts, none twice, of what the head's unknowns among these atoms become, names alone."""
    givens = [{}]
    for place, atom in enumerate(atoms):
        # What is asked for nowhere behind is let go, so that many matches become few.
        wanted = unknowns_in(atoms[place + 1:]) + list(head)
        more = {}
        for given in givens:
            for fit in grown(found, given, atom):
                if are_named(fit, head):
                    kept = [term for term in fit if term in wanted]
                    more[tuple([(term, fit[term]) for term in kept])] = True
        givens = [dict(pairs) for pairs in more]
    return givens


def joined_answers(found, question):
    """The answers of a question in lines, found by their keys, that have names alone in them; some perhaps twice."""
    head, atoms = question
    givens = [{}]
    for part in linked(atoms):
        told = part_answers(found, head, part)
        givens = [{**given, **other} for given in givens for other in told]
    return [put_terms(given, head) for given in givens]
