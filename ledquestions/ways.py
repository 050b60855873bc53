"""Steps by rules from sort to sort, and from turn to turn."""

from ledquestions.shapes import is_side, is_tuple_of, is_whole, other_way

WAY_WORDS = ("within", "along")
TURN_WAY_WORDS = ("along",)


def is_number_of(rules, thing):
    """Whether it is the number of a rule; of anything."""
    return is_whole(thing) and 0 <= thing < len(rules)


def is_numbered_step(rules, thing):
    """Whether it is a pair of a rule's number and 0 or 1; of anything."""
    return is_tuple_of(thing, 2) and is_number_of(rules, thing[0]) and is_side(thing[1])


def landing(rule, words, turned, where):
    """Where a step by the rule leads from where one is, if the rule is of these words; None where there's none."""
    word, first, second = rule
    if word not in words:
        return None
    if turned == 1:
        # What is within says nothing of partners, so there's no seeing it from their side.
        if word == "within":
            return None
        first, second = other_way(first), other_way(second)
    return second if first == where else None


def leads(rules, words, one, other, thing):
    """Whether the thing is a tuple of steps by rules of these words from one to the other; of anything."""
    if not isinstance(thing, tuple):
        return False
    where = one
    for step in thing:
        if not is_numbered_step(rules, step):
            return False
        where = landing(rules[step[0]], words, step[1], where)
        if where is None:
            return False
    return where == other


def is_way(rules, one, other, thing):
    """Whether the thing is a way from a sort to a sort; of anything."""
    return leads(rules, WAY_WORDS, one, other, thing)


def is_turn_way(rules, one, other, thing):
    """Whether the thing is a turn way from a turn to a turn; of anything."""
    return leads(rules, TURN_WAY_WORDS, one, other, thing)


def steps_at(rules, words, where):
    """All pairs (step, sort) of a step from where one is and the sort to which it leads."""
    found = []
    for number, rule in enumerate(rules):
        for turned in (0, 1):
            there = landing(rule, words, turned, where)
            if there is not None:
                found.append(((number, turned), there))
    return found


def fewest(rules, words, one):
    """A dict of all to which steps lead from one, with as few steps there as can be."""
    found = {one: ()}
    waiting = [one]
    while waiting:
        where = waiting.pop(0)
        for step, there in steps_at(rules, words, where):
            if there not in found:
                found[there] = found[where] + (step,)
                waiting.append(there)
    return found


def ways_from(rules, sort):
    """A dict of all sorts to which there's a way from the sort, each with a way of fewest steps."""
    return fewest(rules, WAY_WORDS, sort)


def turn_ways_from(rules, turn):
    """A dict of all turns to which there's a turn way from the turn, each with one of fewest steps."""
    return fewest(rules, TURN_WAY_WORDS, turn)


def way(rules, one, other):
    """A way of fewest steps from a sort to a sort, or None."""
    return ways_from(rules, one).get(other)


def turn_way(rules, one, other):
    """A turn way of fewest steps from a turn to a turn, or None."""
    return turn_ways_from(rules, one).get(other)


def above(rules, sort):
    """A rising tuple of all sorts to which there's a way from the sort."""
    return tuple(sorted(ways_from(rules, sort)))


def turns_above(rules, turn):
    """A rising tuple of all turns to which there's a turn way from the turn."""
    return tuple(sorted(turn_ways_from(rules, turn)))
