"""Terms, atoms and questions: whether a thing is one, and which unknowns it has."""

from ledquestions.bounds import ATOMS, UNKNOWNS
from ledquestions.errors import NoQuestion
from ledquestions.shapes import is_name, is_tuple_of, is_whole

HEAD = 4
LAST_UNKNOWN = 99


def is_term(thing):
    """Whether it is a thing's name or an unknown; of anything."""
    return is_name(thing) or (is_whole(thing) and 0 <= thing <= LAST_UNKNOWN)


def is_atom(thing):
    """Whether it is an atom; of anything."""
    if not is_tuple_of(thing, 2) and not is_tuple_of(thing, 3):
        return False
    return is_name(thing[0]) and all([is_term(part) for part in thing[1:]])


def are_atoms(thing):
    """Whether they are the atoms of a question; of anything."""
    if not isinstance(thing, tuple) or not 1 <= len(thing) <= ATOMS:
        return False
    return all([is_atom(atom) for atom in thing]) and len(set(thing)) == len(thing)


def is_head(thing):
    """Whether it may be the head of a question, whatever its atoms; of anything."""
    return isinstance(thing, tuple) and len(thing) <= HEAD and all([is_term(part) for part in thing])


def atoms_terms(atoms):
    """The terms of the atoms, in their places' order."""
    return [term for atom in atoms for term in atom[1:]]


def is_question(thing):
    """Whether it is a question; of anything."""
    if not is_tuple_of(thing, 2) or not is_head(thing[0]) or not are_atoms(thing[1]):
        return False
    terms = atoms_terms(thing[1])
    return all([term in terms for term in thing[0] if is_whole(term)])


def look_question(thing):
    """True of a question; else NoQuestion."""
    if not is_question(thing):
        raise NoQuestion("no question")
    return True


def unknowns_of(question):
    """A rising tuple of the unlike unknowns of a question."""
    return tuple(sorted({term for term in atoms_terms(question[1]) if is_whole(term)}))


def is_short(question):
    """Whether a question has at most UNKNOWNS unlike unknowns."""
    return len(unknowns_of(question)) <= UNKNOWNS
