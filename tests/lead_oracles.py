"""Slow and plain ways to tell led questions, closed lots, answers and trees, each straight from the words."""

import itertools
import random

from ledquestions.likeness import lies_within
from tests.oracles import flip, reached, rows_of_pair, terms_in, unknowns_in


# Steps.

def parts_of_one(pairs):
    """The classes of terms that must be one, by pairs that must."""
    classes = []
    for one, other in pairs:
        near = [group for group in classes if one in group or other in group]
        classes = [group for group in classes if group not in near]
        classes.append(set().union({one, other}, *near))
    return classes


def stands_for(group):
    """The term that stands for all, None where two unlike things are among them."""
    things = [term for term in group if type(term) is str]
    if len(things) > 1:
        return None
    return things[0] if things else min(group)


def is_step_shape(rules, question, step):
    if type(step) is not tuple or len(step) != 2 or type(step[0]) is not int or step[0] not in range(len(rules)):
        return False
    places = step[1]
    if type(places) is not tuple or any(type(place) is not int for place in places):
        return False
    return len(places) > 0 and list(places) == sorted(set(places) & set(range(len(question[1]))))


def slow_led(rules, question, step):
    """The led question, None where it's no step."""
    if not is_step_shape(rules, question, step):
        return None
    head, atoms = question
    places = step[1]
    word, first, second = rules[step[0]]
    if word not in ("within", "along") or any((atoms[k][0], len(atoms[k])) != (second[0], len(second) + 1) for k in places):
        return None
    t_at, u_at = (2, 1) if second[1:] == (1,) else (1, 2)
    ts = [atoms[k][t_at] for k in places]
    us = [atoms[k][u_at] for k in places] if len(second) == 2 else []
    if word == "within" and us:
        fine = {(k, u_at) for k in places}
        for k, atom in enumerate(atoms):
            for at in range(1, len(atom)):
                if atom[at] in us and (k, at) not in fine:
                    return None
        if any(type(u) is not int or u in head for u in us):
            return None
    pairs = list(zip(ts, ts[:1] * len(ts))) + list(zip(us, us[:1] * len(us)))
    classes = parts_of_one(pairs)
    if any(stands_for(group) is None for group in classes):
        return None

    def put(term):
        return next((stands_for(group) for group in classes if term in group), term)

    left = [atom[:1] + tuple(map(put, atom[1:])) for k, atom in enumerate(atoms) if k not in places]
    t = put(ts[0])
    other = put(us[0]) if word == "along" else min(set(range(100)) - set(unknowns_in(question)))
    new = {(): (first[0], t), (0,): (first[0], t, other), (1,): (first[0], other, t)}[first[1:]]
    return tuple(map(put, head)), tuple(dict.fromkeys(left + [new]))


def slow_steps(rules, question):
    many = len(question[1])
    places = [some for k in range(1, many + 1) for some in itertools.combinations(range(many), k)]
    every = [(number, some) for number in range(len(rules)) for some in places]
    return tuple(sorted(step for step in every if slow_led(rules, question, step) is not None))


# Lots.

def is_chained(rules, question, thing):
    """Whether it is a lot of the question, closed or not."""
    if type(thing) is not tuple or not thing or repr(thing[0]) != repr((question, -1, ())):
        return False
    for k, triple in enumerate(thing[1:], start=1):
        if type(triple) is not tuple or len(triple) != 3 or type(triple[1]) is not int or triple[1] not in range(k):
            return False
        told = slow_led(rules, thing[triple[1]][0], triple[2])
        if told is None or repr(told) != repr(triple[0]):
            return False
    return True


def is_shut(rules, questions):
    """Whether whatever step there is leads to what lies within one of them; all are looked at."""
    for one in questions:
        for step in slow_steps(rules, one):
            told = slow_led(rules, one, step)
            if not any(lies_within(told, other) for other in questions):
                return False
    return True


def is_right_lot(rules, question, thing):
    return is_chained(rules, question, thing) and is_shut(rules, [triple[0] for triple in thing])


def other_lot(rules, question, seed, most=60):
    """A closed lot in an order of its own, with more than is needed; None where it grows beyond most."""
    maker = random.Random(seed)
    found = [(question, -1, ())]
    waiting = [0]
    while waiting:
        number = waiting.pop(maker.randrange(len(waiting)))
        todo = list(slow_steps(rules, found[number][0]))
        maker.shuffle(todo)
        for step in todo:
            told = slow_led(rules, found[number][0], step)
            # Only what is alike to one that's there, but for its numbers, is left out.
            if any(lies_within(told, one) and lies_within(one, told) for one, ahead, by in found):
                continue
            found.append((told, number, step))
            waiting.append(len(found) - 1)
            if len(found) > most:
                return None
    return tuple(found)


def tops(questions):
    """Those that lie within no other one, of several that say the same the first."""
    found = []
    for k, one in enumerate(questions):
        over = [m for m, other in enumerate(questions) if m != k and lies_within(one, other)]
        if all(lies_within(questions[m], one) and m > k for m in over):
            found.append(one)
    return found


# Answers and trees.

def fits(rows, atoms, given):
    """All dicts with which each atom is one of the rows."""
    if not atoms:
        yield given
        return
    atom = atoms[0]
    for row in rows:
        if row[0] != atom[0] or len(row) != len(atom):
            continue
        more = dict(given)
        if all(more.setdefault(term, part) == part if type(term) is int else term == part
               for term, part in zip(atom[1:], row[1:])):
            yield from fits(rows, atoms[1:], more)


def heads_in(rows, question):
    """All answers in rows over things of any kind."""
    head, atoms = question
    return {tuple(given.get(term, term) for term in head) for given in fits(sorted(rows, key=repr), atoms, {})}


def named_heads(rows, question):
    """All answers that have names alone in them."""
    return {head for head in heads_in(rows, question) if all(type(part) is str for part in head)}


def tree_rows(rules, rows, depth):
    """The rows, and what comes of them by rules, with partners without names down to the depth."""
    world, layer, numbers = set(rows), {thing for row in rows for thing in row[1:]}, itertools.count()
    for row in rows:
        if len(row) == 3:
            world |= rows_of_pair(rules, (row[0], 0), row[1], row[2])
    sorts = {thing: set() for thing in layer}
    for row in world:
        if len(row) == 2:
            sorts[row[1]] |= reached(rules, (row[0],))
        else:
            sorts[row[1]] |= reached(rules, (row[0], 0))
            sorts[row[2]] |= reached(rules, (row[0], 1))
    for k in range(depth + 1):
        deeper = {}
        for thing in sorted(layer, key=str):
            world |= {(sort[0], thing) for sort in sorts[thing] if len(sort) == 1}
            for turn in sorted(sort for sort in sorts[thing] if len(sort) == 2):
                if k == depth or has_partner(world, thing, turn):
                    continue
                other = next(numbers)
                world |= rows_of_pair(rules, turn, thing, other)
                deeper[other] = reached(rules, flip(turn))
        sorts.update(deeper)
        layer = set(deeper)
    return world


def has_partner(world, thing, turn):
    at = 1 if turn[1] == 0 else 2
    return any(len(row) == 3 and row[0] == turn[0] and row[at] == thing for row in world)


def some_rows(seed, many, kinds="abc", roles="rs", things="xyz"):
    maker = random.Random(seed)
    every = list(itertools.product(kinds, things)) + list(itertools.product(roles, things, things))
    return tuple(sorted(maker.sample(every, min(many, len(every)))))


def leading_rules(seed, many, kinds="abc", roles="rs", somes=4):
    """Rules within and along alone, with at most so many unlike turns as second sorts."""
    maker = random.Random(seed)
    turns = [(role, side) for role in roles for side in (0, 1)]
    sorts = turns + [(kind,) for kind in kinds]
    found = []
    for k in range(1000):
        word = maker.choice(("within", "within", "along"))
        pick = sorts if word == "within" else turns
        rule = (word, maker.choice(pick), maker.choice(pick))
        told = {second for word, first, second in found + [rule] if word == "within" and len(second) == 2}
        if len(found) < many and rule not in found and rule[1] != rule[2] and len(told) <= somes:
            found.append(rule)
    return tuple(found)


def all_terms(question):
    return list(question[0]) + terms_in(question)
