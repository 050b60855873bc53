"""Shorts: names that questions tell, and questions written out without them."""

from ledquestions.bounds import ATOMS, SHORTS, UNKNOWNS
from ledquestions.errors import NoShorts, Ring, TooGreat
from ledquestions.likeness import put_atom
from ledquestions.questions import is_question, is_short, unknowns_of
from ledquestions.shapes import is_name, is_tuple_of, is_whole


def is_told_head(head):
    """Whether a question's head is one unknown or two unlike ones."""
    return 1 <= len(head) <= 2 and all([is_whole(term) for term in head]) and len(set(head)) == len(head)


def is_pair(thing):
    """Whether it is a pair of a name and a question that may tell it; of anything."""
    if not is_tuple_of(thing, 2) or not is_name(thing[0]) or not is_question(thing[1]):
        return False
    return is_told_head(thing[1][0]) and is_short(thing[1])


def are_shorts(thing):
    """Whether they are shorts, whether names lead round or not; of anything."""
    if not isinstance(thing, tuple) or len(thing) > SHORTS or not all([is_pair(pair) for pair in thing]):
        return False
    return len({pair[0] for pair in thing}) == len(thing)


def is_told(told, atom):
    """Whether the atom is of a name told so: for a kind in atoms of one term alone, for a role in those of two."""
    return atom[0] in told and len(told[atom[0]][0]) == len(atom) - 1


def names_in(told, question):
    """The names told so of which the question has atoms."""
    return [atom[0] for atom in question[1] if is_told(told, atom)]


def ring_in(told):
    """A tuple of names that lead round, or None."""
    leads = {name: names_in(told, told[name]) for name in told}
    # What leads to no name that is left is in no ring, so it goes; then each that is left leads to one.
    left, before = list(told), -1
    while len(left) != before:
        before = len(left)
        left = [name for name in left if any([there in left for there in leads[name]])]
    if len(left) == 0:
        return None
    walk = left[:1]
    while True:
        there = [name for name in leads[walk[-1]] if name in left][0]
        if there in walk:
            return tuple(walk[walk.index(there):])
        walk.append(there)


def look_shorts(thing):
    """True of shorts; else NoShorts, or Ring with names that lead round."""
    if not are_shorts(thing):
        raise NoShorts("no shorts")
    names = ring_in(dict(thing))
    if names is not None:
        raise Ring(names)
    return True


def unused(unknowns):
    """The least number that is no key of the dict."""
    number = 0
    while number in unknowns:
        number += 1
    return number


def opened(question, terms, unknowns):
    """The atoms of a telling question for an atom with these terms; its other unknowns become new keys of the dict."""
    given = {term: put for term, put in zip(question[0], terms)}
    for unknown in unknowns_of(question):
        if unknown not in given:
            given[unknown] = unused(unknowns)
            unknowns[given[unknown]] = True
    return [put_atom(given, atom) for atom in question[1]]


def look_size(atoms, unknowns):
    """Refuse with TooGreat where there are too many of either."""
    if len(atoms) > ATOMS or len(unknowns) > UNKNOWNS:
        raise TooGreat("too many atoms or unknowns, written out")


def written_out(shorts, question):
    """The question with each atom of a name told so replaced by what tells it; TooGreat."""
    told = dict(shorts)
    unknowns = {unknown: True for unknown in unknowns_of(question)}
    plain = []
    # With each atom stand the names by which it came, so that a ring ends, too.
    waiting = [(atom, ()) for atom in question[1]]
    while waiting:
        atom, names = waiting.pop(0)
        if atom[0] in names and is_told(told, atom):
            raise Ring(names[names.index(atom[0]):])
        # Atoms of names told so stand as often as they come, since each has unknowns of its own.
        if is_told(told, atom):
            more = opened(told[atom[0]], atom[1:], unknowns)
            waiting = [(inner, names + atom[:1]) for inner in more] + waiting
        elif atom not in plain:
            plain.append(atom)
        look_size(plain, unknowns)
    return (question[0], tuple(plain))
