"""What the smallest things look like: whole numbers, names, turns, sorts. All here may be asked of anything."""

LETTERS = 8
BARRED = ("if", "and")


def is_whole(thing):
    """Whether it is a whole number: to Python a truth is an int, here it is none."""
    return isinstance(thing, int) and not isinstance(thing, bool)


def is_tuple_of(thing, many):
    """Whether it is a tuple of so many parts."""
    return isinstance(thing, tuple) and len(thing) == many


def is_name(thing):
    """Whether it is a name for a kind, a role or a thing."""
    if not isinstance(thing, str) or not 1 <= len(thing) <= LETTERS:
        return False
    return thing not in BARRED and all(["a" <= sign <= "z" for sign in thing])


def is_side(thing):
    """Whether it is 0 or 1."""
    return is_whole(thing) and thing in (0, 1)


def is_turn(thing):
    """Whether it is a turn."""
    return is_tuple_of(thing, 2) and is_name(thing[0]) and is_side(thing[1])


def is_sort(thing):
    """Whether it is a sort."""
    return is_turn(thing) or (is_tuple_of(thing, 1) and is_name(thing[0]))


def other_way(turn):
    """The turn's other way round."""
    return (turn[0], 1 - turn[1])


def is_rising(things):
    """Whether each is less than the next one, so none stands twice; of what can be compared."""
    return all([things[k] < things[k + 1] for k in range(len(things) - 1)])


def is_same(thing, other):
    """Whether a thing, which may be anything, is just this one, made of tuples, texts and whole numbers alone."""
    # To Python True is 1, also deep within, so == alone would let truths by.
    if isinstance(other, tuple):
        return is_tuple_of(thing, len(other)) and all([is_same(part, same) for part, same in zip(thing, other)])
    if is_whole(other):
        return is_whole(thing) and thing == other
    return isinstance(thing, str) and thing == other
