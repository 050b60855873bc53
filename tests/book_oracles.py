"""Slow and plain ways to tell clashes, supports, trees and sure answers, each straight from the words."""

import itertools
import random

from tests.lead_oracles import has_partner, leading_rules, named_heads, some_rows
from tests.oracles import flip, is_right_paper, is_right_way, is_so, reached, rows_of_pair, some_rules


def sorts_by_rows(rules, rows):
    """For each named thing all sorts that it is of by the rows and by ways."""
    found = {}
    for row in rows:
        if len(row) == 2:
            found.setdefault(row[1], set()).update(reached(rules, (row[0],)))
        else:
            found.setdefault(row[1], set()).update(reached(rules, (row[0], 0)))
            found.setdefault(row[2], set()).update(reached(rules, (row[0], 1)))
    return found


def named_part(rules, rows):
    """The rows over named things that come of the rows."""
    world = set(rows)
    for row in rows:
        if len(row) == 3:
            world |= rows_of_pair(rules, (row[0], 0), row[1], row[2])
    for thing, sorts in sorts_by_rows(rules, rows).items():
        world |= {(sort[0], thing) for sort in sorts if len(sort) == 1}
    return world


def finite_world(rules, rows):
    """The rows with all that comes of them, and partners that are made anew at the first three depths alone."""
    world = named_part(rules, rows)
    waiting = []
    for thing, sorts in sorted(sorts_by_rows(rules, rows).items()):
        waiting += [(thing, turn, 1) for turn in sorted(sorts) if len(turn) == 2]
    done = set()
    while waiting:
        parent, turn, depth = waiting.pop()
        child = (turn, depth % 3, depth > 3) if depth > 1 else (parent, turn)
        world |= rows_of_pair(rules, turn, parent, child)
        if child in done:
            continue
        done.add(child)
        sorts = reached(rules, flip(turn))
        world |= {(sort[0], child) for sort in sorts if len(sort) == 1}
        waiting += [(child, sort, depth + 1) for sort in sorted(sorts - reached(rules, flip(turn), True)) if len(sort) == 2]
    return world


def can_be(rules, rows):
    """Whether a world has the rows: whatever has them has all that the finite one has, but for what things are."""
    world = finite_world(rules, rows)
    return all(is_so(world, rule) for rule in rules)


def least_clashing(rules, rows, most=3):
    """All least lots of rows, of at most so many, that can't be."""
    found = []
    for many in range(1, most + 1):
        for some in itertools.combinations(rows, many):
            if not any(set(fewer) <= set(some) for fewer in found) and not can_be(rules, some):
                found.append(some)
    return tuple(sorted(found))


# Clash papers.

def seat(rows, row, side):
    """The sort of the row's side, what stands there, and the pair seen from there; None where there's none."""
    for there in rows:
        if repr(row) == repr(there) and len(there) == 2 and repr(side) == "0":
            return there[:1], there[1], None
        if repr(row) == repr(there) and len(there) == 3 and repr(side) in ("0", "1"):
            pair = there[1:] if side == 0 else (there[2], there[1])
            return (there[0], side), pair[0], pair
    return None


def is_right_clash(book, thing):
    rules, rows = book
    if type(thing) is not tuple or len(thing) not in (4, 8):
        return False
    if len(thing) == 4:
        told = seat(rows, thing[1], thing[2])
        return repr(thing[0]) == "'void'" and told is not None and is_right_paper(rules, told[0], thing[3])
    for number, (word, first, second) in enumerate(rules):
        if word in ("within", "along") or repr(thing[:2]) != repr((word, number)):
            continue
        one, other = seat(rows, *thing[2:4]), seat(rows, *thing[5:7])
        if one is None or other is None or one[1] != other[1]:
            return False
        if word == "away" and (one[2] is None or one[2] != other[2]):
            return False
        ways = ((one[0], first, thing[4]), (other[0], second, thing[7]))
        return all(is_right_way(rules, *way, word == "away") for way in ways)
    return False


# Trees. An unnamed thing is written as the way on which it was grown: (thing, turn, turn, ..).

def due_turns(rules, wanted):
    """Of the turns by which partners are wanted those by which one grows."""
    def leads(one, other):
        return other in reached(rules, one, True)

    return {
        q for q in wanted
        if not any(leads(p, q) and not (leads(q, p) and q < p) for p in wanted if p != q)
    }


def slow_tree(rules, rows, depth):
    """The tree's rows down to the depth, and all unnamed things."""
    world = named_part(rules, rows)
    layer = {}
    for thing, sorts in sorts_by_rows(rules, rows).items():
        wanted = {sort for sort in sorts if len(sort) == 2 and not has_partner(world, thing, sort)}
        layer[(thing,)] = due_turns(rules, wanted)
    nodes = set()
    for level in range(depth):
        deeper = {}
        for one, turns in layer.items():
            for turn in turns:
                other = one + (turn,)
                nodes.add(other)
                world |= rows_of_pair(rules, turn, one if level else one[0], other)
                sorts = reached(rules, flip(turn))
                world |= {(sort[0], other) for sort in sorts if len(sort) == 1}
                had = reached(rules, flip(turn), True)
                deeper[other] = due_turns(rules, {sort for sort in sorts if len(sort) == 2} - had)
        layer = deeper
    return world, nodes


def is_right_tree(book, depth, thing):
    """Whether the thing, which may be anything, is the tree but for order; of a book that doesn't clash."""
    world, nodes = slow_tree(*book, depth)
    if type(thing) is not tuple or len(thing) != 2 or type(thing[0]) is not tuple or type(thing[1]) is not tuple:
        return False
    names = {repr(row_thing): row_thing for row in book[1] for row_thing in row[1:]}
    for k, triple in enumerate(thing[1]):
        if type(triple) is not tuple or len(triple) != 3 or repr(triple[0]) != repr(k) or repr(triple[1]) not in names:
            return False
        at = names[repr(triple[1])]
        path = (at if type(at) is tuple else (at,)) + (triple[2],)
        fine = [node for node in nodes if repr(node) == repr(path)]
        if not fine or fine[0] in names.values():
            return False
        names[repr(k)] = fine[0]
    if len(thing[1]) != len(nodes):
        return False
    found = []
    for line in thing[0]:
        if type(line) is not tuple or len(line) not in (2, 3) or any(repr(part) not in names for part in line[1:]):
            return False
        if type(line[0]) is not str:
            return False
        found.append(line[:1] + tuple(names[repr(part)] for part in line[1:]))
    return len(found) == len(set(found)) and set(found) == world


def as_lines(world):
    """A world's rows with numbers for all things that are no names."""
    numbers = {}
    return tuple(
        row[:1] + tuple(part if type(part) is str else numbers.setdefault(part, len(numbers)) for part in row[1:])
        for row in sorted(world, key=repr)
    )


# Answers.

def sure_heads(rules, rows, question, depth=7):
    """The answers of named things in the tree down to the depth."""
    return named_heads(slow_tree(rules, rows, depth)[0], question)


def least_supports(rules, rows, question, answer, depth=6):
    """All least lots of rows by which the answer is sure."""
    found = []
    for many in range(1, len(question[1]) + 1):
        for some in itertools.combinations(rows, many):
            if not any(set(fewer) <= set(some) for fewer in found):
                if answer in sure_heads(rules, some, question, depth):
                    found.append(some)
    return tuple(sorted(found))


def some_book(seed, many=4, kinds="ab", roles="rs", things="xy", rows=4, somes=2):
    """A book that doesn't clash, with rules of all words, by the figures of a seed."""
    maker = random.Random(seed)
    for again in range(1000):
        rules = leading_rules(seed * 31 + again, maker.randint(1, many), kinds=kinds, roles=roles, somes=somes)
        never = [rule for rule in some_rules(seed * 17 + again, 4, kinds=kinds, roles=roles) if rule[0] in ("apart", "away")]
        rules = tuple(dict.fromkeys(rules + tuple(never)))
        if seed % 3 == 0:
            rules = tuple(maker.sample(rules, len(rules)))
        told = some_rows(seed * 13 + again, maker.randint(1, rows), kinds=kinds, roles=roles, things=things)
        if can_be(rules, told):
            return rules, told
    raise AssertionError(seed)
