"""What several test files need: odd things, and things with one part changed."""

import copy


def deep(thing, levels):
    for k in range(levels):
        thing = (thing,) if k % 2 else [thing]
    return thing


ODD = [
    None, True, False, 0, 1, 2, -1, 10 ** 999, -(10 ** 999),
    "", " ", "a", "if", "and", "within", "\n", "a" * 4000, "?0",
    (), (()), ((),), ((), ()), [], [()], {}, {"a": 1}, {(): []}, {0: None},
    (None,), (True,), (0,), (0, 0), (1, 1, 1), ("a", None), (None, "a"), ([], []), ({}, {}),
    [("a", "b")], ["a", "b"], {"a": "b"}, (("a", "b"), None), (["a", "b"],), ({"a": 1}, {"b": 2}),
    deep("a", 12), deep((), 11), tuple(range(4999)), ("a",) * 4999, tuple(() for k in range(4999)),
    {k: (k,) for k in range(1000)},
]


def swaps(part):
    """Other things to stand in the place of a part."""
    found = [None, True, False, "", "a", "zz", 0, 1, 2, -1, 99, 10 ** 999, (), ("a",), [], {}, (0, 0), ((), ())]
    if isinstance(part, tuple):
        found += [list(part), part + part, dict(enumerate(part)), (part,), part[::-1]]
    if isinstance(part, int):
        found += [part + 1, part - 1, str(part), (part,), bool(part), -part]
    if isinstance(part, str):
        found += [part + "a", part[:-1], part.upper(), part + "\n", " " + part, (part,), part + "1"]
    return found


def changed(thing):
    """The thing with one part changed, at every depth, each unlike the thing itself."""
    return [other for other in changes(thing) if repr(other) != repr(thing)]


def changes(thing):
    found = swaps(thing)
    if not isinstance(thing, tuple):
        return found
    for k, part in enumerate(thing):
        found.append(thing[:k] + thing[k + 1:])
        found.append(thing[:k] + (part,) + thing[k:])
        found += [thing[:k] + (other,) + thing[k + 1:] for other in changes(part)]
    for extra in (None, 0, "a", ()):
        found.append(thing + (extra,))
    return found


def refusal(call, *things, **named):
    """The error with which a call refuses, None where it doesn't."""
    try:
        call(*things, **named)
    except ValueError as error:
        return error
    return None


def unchanged(call, *things):
    """Whether what is handed to the call is the same behind it, whether it refuses or not."""
    kept = copy.deepcopy(things)
    refusal(call, *things)
    return repr(kept) == repr(things)
