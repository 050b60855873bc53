"""Likenesses from question to question: what lies within what, and what is alike."""

from ledquestions.questions import unknowns_of
from ledquestions.shapes import is_name, is_tuple_of, is_whole


def put_terms(given, terms):
    """The terms as a tuple, with what the dict gives for unknowns in their places."""
    return tuple([given.get(term, term) for term in terms])


def put_atom(given, atom):
    """The atom with what the dict gives for unknowns in their places."""
    return atom[:1] + put_terms(given, atom[1:])


def is_pair_for(unknown, thing):
    """Whether it is a pair of this unknown and a term; of anything."""
    if not is_tuple_of(thing, 2) or not is_whole(thing[0]) or thing[0] != unknown:
        return False
    # A truth equals a number, so it would go unseen where the atoms are compared.
    return is_whole(thing[1]) or is_name(thing[1])


def given_by(question, thing):
    """A dict of the terms that the thing gives for the question's unknowns; None where it is no such tuple of pairs."""
    unknowns = unknowns_of(question)
    if not is_tuple_of(thing, len(unknowns)):
        return None
    if not all([is_pair_for(unknown, pair) for unknown, pair in zip(unknowns, thing)]):
        return None
    return {pair[0]: pair[1] for pair in thing}


def become_some_of(given, atoms, others):
    """Whether each atom, with what the dict gives in its unknowns' places, is one of the others."""
    return all([put_atom(given, atom) in others for atom in atoms])


def is_likeness(q, r, thing):
    """Whether it is a likeness from q to r; of anything."""
    given = given_by(q, thing)
    return given is not None and put_terms(given, q[0]) == r[0] and become_some_of(given, q[1], r[1])


def fitted(given, terms, others):
    """The dict grown so that the terms become the others, or None."""
    if len(terms) != len(others):
        return None
    grown = {unknown: given[unknown] for unknown in given}
    for term, other in zip(terms, others):
        became = grown.setdefault(term, other) if is_whole(term) else term
        if became != other:
            return None
    return grown


def renames(given):
    """Whether the dict puts unlike unknowns for unlike unknowns."""
    put = [given[unknown] for unknown in given]
    return all([is_whole(term) for term in put]) and len(set(put)) == len(put)


def spread(given, atoms, targets, renaming):
    """The dict grown so that each atom becomes a target, by renaming alone where that is asked; or None."""
    if len(atoms) == 0:
        return given
    for target in targets:
        if target[0] != atoms[0][0]:
            continue
        grown = fitted(given, atoms[0][1:], target[1:])
        if grown is None or (renaming and not renames(grown)):
            continue
        whole = spread(grown, atoms[1:], targets, renaming)
        if whole is not None:
            return whole
    return None


def mapping(q, r, renaming):
    """A dict from the unknowns of q with which it becomes some or all of r, or None."""
    given = fitted({}, q[0], r[0])
    if given is None:
        return None
    return spread(given, q[1], r[1], renaming)


def likeness(q, r):
    """A likeness from q to r, or None."""
    given = mapping(q, r, False)
    if given is None:
        return None
    return tuple(sorted([(unknown, given[unknown]) for unknown in given]))


def lies_within(r, q):
    """Whether r lies within q: whatever r answers q answers."""
    return mapping(q, r, False) is not None


def alike(q, r):
    """Whether the questions are the same but for the numbers of unknowns and the order of atoms."""
    # Renaming keeps unlike atoms unlike, so with as many atoms on both sides each of r's comes of one.
    return len(q[1]) == len(r[1]) and mapping(q, r, True) is not None


def least_form(q):
    """A question of as few of q's atoms as can be, in their order, that says the same."""
    head, kept = q
    # An atom that can't be left out now can't be either when others have gone: a likeness to what is left
    # then would be, behind the one by which the others went, a likeness now. So each is tried once.
    for atom in q[1]:
        rest = tuple([other for other in kept if other != atom])
        if mapping((head, kept), (head, rest), False) is not None:
            kept = rest
    return (head, kept)
