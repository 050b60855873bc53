"""Void sorts, which nothing can be of, and the papers that say why."""

from ledquestions.shapes import is_tuple_of, is_turn, other_way
from ledquestions.ways import above, is_number_of, is_turn_way, is_way, turn_ways_from, ways_from


def is_leg(rules, where, thing):
    """Whether it is a leg from where one is; of anything."""
    return is_tuple_of(thing, 2) and is_turn(thing[1]) and is_way(rules, where, thing[1], thing[0])


def walked(rules, sort, legs):
    """Where one is behind the legs, None where they are none; of anything as the legs."""
    if not isinstance(legs, tuple):
        return None
    where = sort
    for leg in legs:
        if not is_leg(rules, where, leg):
            return None
        where = other_way(leg[1])
    return where


def is_end(rules, where, thing):
    """Whether it is the end of a void paper whose legs lead there; of anything."""
    if not is_tuple_of(thing, 4) or not is_number_of(rules, thing[1]):
        return False
    word, number, one, other = thing
    told, first, second = rules[number]
    if word != told:
        return False
    if word == "apart":
        return is_way(rules, where, first, one) and is_way(rules, where, second, other)
    if word == "away" and is_turn(where):
        return is_turn_way(rules, where, first, one) and is_turn_way(rules, where, second, other)
    return False


def is_void_paper(rules, sort, paper):
    """Whether it is a void paper for the sort; of anything as the paper."""
    if not is_tuple_of(paper, 2):
        return False
    where = walked(rules, sort, paper[0])
    return where is not None and is_end(rules, where, paper[1])


def end_at(rules, where):
    """The end of a void paper where one is, or None."""
    ways = {"apart": ways_from(rules, where)}
    if is_turn(where):
        ways["away"] = turn_ways_from(rules, where)
    for number, (word, first, second) in enumerate(rules):
        there = ways.get(word, {})
        if first in there and second in there:
            return (word, number, there[first], there[second])
    return None


def legs_at(rules, where):
    """All legs from where one is, by a way of fewest steps to each turn."""
    ways = ways_from(rules, where)
    return [(ways[sort], sort) for sort in ways if is_turn(sort)]


def void_paper(rules, sort):
    """A void paper for the sort, or None where it isn't void."""
    # A tree grown from a thing of the sort has a partner just where legs lead, and each partner is of just
    # what lies above the other way round of its turn. So where no legs come to an end, the tree is a world.
    legs = {sort: ()}
    waiting = [sort]
    while waiting:
        where = waiting.pop(0)
        end = end_at(rules, where)
        if end is not None:
            return (legs[where], end)
        for leg in legs_at(rules, where):
            there = other_way(leg[1])
            if there not in legs:
                legs[there] = legs[where] + (leg,)
                waiting.append(there)
    return None


def named_sorts(rules):
    """A rising tuple of the sorts that the rules name, with the other ways round of their turns."""
    sorts = [sort for rule in rules for sort in rule[1:]]
    others = [other_way(sort) for sort in sorts if is_turn(sort)]
    return tuple(sorted(set(sorts + others)))


def partners_at(rules, sort):
    """The sorts at which one leg from the sort may lead on."""
    return [other_way(turn) for turn in above(rules, sort) if is_turn(turn)]


def voids(rules):
    """A rising tuple of the void sorts among those that the rules name."""
    named = named_sorts(rules)
    partners = {sort: partners_at(rules, sort) for sort in named}
    void = {}
    more = [sort for sort in named if end_at(rules, sort) is not None]
    while more:
        for sort in more:
            void[sort] = True
        more = [sort for sort in named if sort not in void and any([there in void for there in partners[sort]])]
    return tuple(sorted(void))
