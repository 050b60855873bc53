"""Rows, rules and books: whether a thing is one, and what the rows say of a thing."""

from ledquestions.bounds import ROWS, RULES, SOMES, THINGS
from ledquestions.errors import NoBook, NoRow, NoRows, NoRule, NoRules
from ledquestions.shapes import is_name, is_rising, is_sort, is_tuple_of, is_turn

SORT_WORDS = ("within", "apart")
TURN_WORDS = ("along", "away")
NEVER_BOTH = ("apart", "away")


def is_row(thing):
    """Whether it is a row; of anything."""
    return (is_tuple_of(thing, 2) or is_tuple_of(thing, 3)) and all([is_name(part) for part in thing])


def is_rule(thing):
    """Whether it is a rule; of anything."""
    if not is_tuple_of(thing, 3):
        return False
    word, first, second = thing
    if word in SORT_WORDS:
        return is_sort(first) and is_sort(second)
    return word in TURN_WORDS and is_turn(first) and is_turn(second)


def are_rows(thing):
    """Whether they are rows; of anything."""
    if not isinstance(thing, tuple) or len(thing) > ROWS:
        return False
    # Only rows are sure to be comparable with each other.
    if not all([is_row(row) for row in thing]):
        return False
    return is_rising(thing) and len(things_of(thing)) <= THINGS


def look_row(thing):
    """True of a row; else NoRow."""
    if not is_row(thing):
        raise NoRow("no row")
    return True


def look_rule(thing):
    """True of a rule; else NoRule."""
    if not is_rule(thing):
        raise NoRule("no rule")
    return True


def has_room(rules):
    """Whether so many rules, with so many unlike turns as second sorts of within, may be."""
    somes = [second for word, first, second in rules if word == "within" and is_turn(second)]
    return len(rules) <= RULES and len(set(somes)) <= SOMES


def look_rules(thing):
    """True of rules; else NoRules with the number of the first wrong one."""
    if not isinstance(thing, tuple) or len(thing) > RULES:
        raise NoRules(-1)
    for number, rule in enumerate(thing):
        if not is_rule(rule) or rule in thing[:number] or not has_room(thing[:number + 1]):
            raise NoRules(number)
    return True


def look_rows(thing):
    """True of rows; else NoRows."""
    if not are_rows(thing):
        raise NoRows("no rows")
    return True


def look_book(thing):
    """True of a book; else NoBook, NoRules or NoRows, in this order."""
    if not is_tuple_of(thing, 2):
        raise NoBook("no tuple of rules and rows")
    look_rules(thing[0])
    return look_rows(thing[1])


def row_sorts(row):
    """Pairs (sort, thing): by this row alone the thing is of the sort."""
    if len(row) == 2:
        return [((row[0],), row[1])]
    return [((row[0], 0), row[1]), ((row[0], 1), row[2])]


def sorts_of(rows, thing):
    """A rising tuple of the sorts that the thing is of, by these rows alone."""
    return tuple(sorted({sort for row in rows for sort, whose in row_sorts(row) if whose == thing}))


def things_of(rows):
    """A rising tuple of the things that stand in the rows."""
    return tuple(sorted({thing for row in rows for thing in row[1:]}))
