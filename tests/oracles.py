"""Slow and plain ways to tell the same, by trying all; what is told is compared by how it is written (repr),
so a truth is never a number and a list never a tuple."""

import functools
import itertools
import random


def flip(turn):
    return (turn[0], 1 - turn[1])


def is_plain(thing):
    """Whether it is made of tuples, texts and whole numbers alone."""
    if type(thing) is tuple:
        return all(is_plain(part) for part in thing)
    return type(thing) in (int, str)


# Ways.

def arrows(rules, turns_alone):
    """All (step, from, to)."""
    found = []
    for number, (word, first, second) in enumerate(rules):
        if word == "within" and not turns_alone:
            found.append(((number, 0), first, second))
        if word == "along":
            found.append(((number, 0), first, second))
            found.append(((number, 1), flip(first), flip(second)))
    return found


@functools.lru_cache(maxsize=None)
def written_ways(rules, one, other, many, turns_alone=False):
    """All ways of just so many steps, as they are written."""
    ends = [((), one)]
    for k in range(many):
        ends = [(way + (step,), to) for way, at in ends for step, fro, to in arrows(rules, turns_alone) if fro == at]
    return frozenset(repr(way) for way, at in ends if at == other)


def is_right_way(rules, one, other, thing, turns_alone=False):
    if type(thing) is not tuple or len(thing) > 7:
        return False
    return repr(thing) in written_ways(rules, one, other, len(thing), turns_alone)


def reached(rules, one, turns_alone=False):
    """All to which steps lead."""
    found = {one}
    for k in range(2 * len(rules) + 1):
        found |= {to for step, fro, to in arrows(rules, turns_alone) if fro in found}
    return found


def distance(rules, one, other, turns_alone=False):
    """How few steps lead there, None where none do."""
    layer, seen = {one}, set()
    for many in range(2 * len(rules) + 2):
        if other in layer:
            return many
        seen |= layer
        layer = {to for step, fro, to in arrows(rules, turns_alone) if fro in layer} - seen
    return None


def named(rules):
    found = {sort for rule in rules for sort in rule[1:]}
    return found | {flip(sort) for sort in found if len(sort) == 2}


# Worlds, as sets of rows over things of any kind.

def pairs_of(world, turn):
    rows = [row for row in world if len(row) == 3 and row[0] == turn[0]]
    return {(row[1], row[2]) if turn[1] == 0 else (row[2], row[1]) for row in rows}


def members(world, sort):
    if len(sort) == 1:
        return {row[1] for row in world if len(row) == 2 and row[0] == sort[0]}
    return {pair[0] for pair in pairs_of(world, sort)}


def is_so(world, rule):
    word, first, second = rule
    told = members if word in ("within", "apart") else pairs_of
    ones, others = told(world, first), told(world, second)
    return ones <= others if word in ("within", "along") else not ones & others


def small_worlds(kinds, roles, things):
    """All worlds over these."""
    rows = list(itertools.product(kinds, things)) + list(itertools.product(roles, things, things))
    for bits in itertools.product((False, True), repeat=len(rows)):
        yield {row for row, there in zip(rows, bits) if there}


def rows_of_pair(rules, turn, one, other):
    """The rows by which the pair is of the turn, and of what comes of that by along rules."""
    turns = reached(rules, turn, True)
    return {(role, one, other) if side == 0 else (role, other, one) for role, side in turns}


def grown_world(rules, sort):
    """A world with a thing "root" of the sort and of nothing that needn't be: a tree, folded to be finite."""
    world = {(s[0], "root") for s in reached(rules, sort) if len(s) == 1}
    waiting = [("root", turn, 1) for turn in sorted(reached(rules, sort)) if len(turn) == 2]
    done = set()
    while waiting:
        parent, turn, depth = waiting.pop()
        child = (turn, depth % 3, depth > 3)
        world |= rows_of_pair(rules, turn, parent, child)
        if child in done:
            continue
        done.add(child)
        has = reached(rules, flip(turn), True)
        for s in sorted(reached(rules, flip(turn))):
            if len(s) == 1:
                world.add((s[0], child))
            elif s not in has:
                waiting.append((child, s, depth + 1))
    return world


# Void papers.

def is_right_paper(rules, sort, paper):
    if type(paper) is not tuple or len(paper) != 2 or type(paper[0]) is not tuple:
        return False
    where = sort
    for leg in paper[0]:
        if type(leg) is not tuple or len(leg) != 2:
            return False
        turns = [turn for turn in named(rules) | {where} if len(turn) == 2 and repr(turn) == repr(leg[1])]
        if not turns or not is_right_way(rules, where, turns[0], leg[0]):
            return False
        where = flip(turns[0])
    for number, (word, first, second) in enumerate(rules):
        if word not in ("apart", "away") or type(paper[1]) is not tuple or len(paper[1]) != 4:
            continue
        if repr(paper[1][:2]) == repr((word, number)) and (word == "apart" or len(where) == 2):
            ends = zip((first, second), paper[1][2:])
            if all(is_right_way(rules, where, to, thing, word == "away") for to, thing in ends):
                return True
    return False


# Questions.

def terms_in(question):
    return [term for atom in question[1] for term in atom[1:]]


def unknowns_in(question):
    return sorted({term for term in terms_in(question) if type(term) is int})


def become(question, given):
    head, atoms = question
    put = [atom[:1] + tuple(given.get(term, term) for term in atom[1:]) for atom in atoms]
    return tuple(given.get(term, term) for term in head), put


def all_likenesses(q, r):
    unknowns = unknowns_in(q)
    found = []
    for terms in itertools.product(sorted(set(terms_in(r)), key=repr), repeat=len(unknowns)):
        head, atoms = become(q, dict(zip(unknowns, terms)))
        if head == r[0] and set(atoms) <= set(r[1]):
            found.append(tuple(zip(unknowns, terms)))
    return found


def are_alike(q, r):
    ones, others = unknowns_in(q), unknowns_in(r)
    if len(ones) != len(others):
        return False
    for order in itertools.permutations(others):
        head, atoms = become(q, dict(zip(ones, order)))
        if head == r[0] and set(atoms) == set(r[1]):
            return True
    return False


def answers_in(rows, question):
    """All answers of a question in rows, of things that stand in them."""
    things = sorted({thing for row in rows for thing in row[1:]})
    unknowns = unknowns_in(question)
    found = set()
    for put in itertools.product(things, repeat=len(unknowns)):
        head, atoms = become(question, dict(zip(unknowns, put)))
        if set(atoms) <= set(rows):
            found.add(head)
    return found


def frozen(question):
    """Rows and an answer: the question with names of their own for its unknowns."""
    head, atoms = become(question, {k: "frozen" + chr(97 + k % 26) + chr(97 + k // 26) for k in range(100)})
    return atoms, head


# Things made by the figures of a seed, so the same each time.

def some_rules(seed, many, kinds="abc", roles="rs"):
    maker = random.Random(seed)
    turns = [(role, side) for role in roles for side in (0, 1)]
    sorts = turns + [(kind,) for kind in kinds]
    found = []
    while len(found) < many:
        word = maker.choice(("within", "within", "within", "along", "along", "apart", "away"))
        pick = sorts if word in ("within", "apart") else turns
        rule = (word, maker.choice(pick), maker.choice(pick))
        if rule not in found and len(somes_of(found + [rule])) <= 4:
            found.append(rule)
    return tuple(found)


def somes_of(rules):
    return {rule[2] for rule in rules if rule[0] == "within" and len(rule[2]) == 2}


def some_question(seed, atoms=4, unknowns=(0, 1, 2, 99), things=("x", "y"), kinds=("k",), roles=("r",), heads=2):
    maker = random.Random(seed)
    terms = list(unknowns) * 2 + list(things)
    found = []
    for k in range(maker.randint(1, atoms)):
        if maker.random() < 0.3:
            atom = (maker.choice(kinds), maker.choice(terms))
        else:
            atom = (maker.choice(roles), maker.choice(terms), maker.choice(terms))
        if atom not in found:
            found.append(atom)
    told = sorted({term for atom in found for term in atom[1:]}, key=repr)
    head = tuple(maker.choice(told) for k in range(maker.randint(0, heads)))
    return head, tuple(found)
