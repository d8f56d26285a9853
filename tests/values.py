"""Values of all kinds for judges and readers, and exact comparison: True and 1 are unlike, () and [] too."""

import copy


def nested(depth, wrap, inner):
    value = inner
    for _ in range(depth):
        value = wrap(value)
    return value


def odd_values():
    """A new list of values that are no land and no text of any kind."""
    return [
        None, True, False, 0, 1, -1, 2, 10 ** 59, -10 ** 59, "", " ", "a", "\t", "\n", "x" * 200,
        (), [], {}, (None,), [0], {0: 1}, {"n": (1, [2])}, (True, False), ("a", ("b", "c")),
        nested(40, lambda value: (value,), 1), nested(40, lambda value: [value], "a"),
        nested(40, lambda value: {"k": value}, None), tuple(range(2000)), list(range(2000)),
        tuple([(k, [k]) for k in range(600)]), {(1, (2, "a")): [{}]},
        (4, 4, 4, 4), ("", "", "", ""), ((), (), (), ()), ([], [], [], []), (None, None, None, None),
    ]


REPLACEMENTS = (None, True, False, -1, 0, 1, 2, 3, 10 ** 59, -10 ** 59, "", "0", "ab", (), (0,), (0, 1), [], [0, 1],
                {}, {0: 1})


def changes(value):
    """All values with one part of this one exchanged, left out, doubled, made a list, or with the other sign."""
    yield from REPLACEMENTS
    if isinstance(value, int):
        yield from (-value, value + 1, value - 1)
    if not isinstance(value, tuple):
        return
    yield list(value)
    for place, part in enumerate(value):
        ahead, behind = value[:place], value[place + 1:]
        yield ahead + behind
        yield ahead + (part, part) + behind
        if behind:
            yield ahead + (behind[0], part) + behind[1:]
        for changed in changes(part):
            yield ahead + (changed,) + behind


def exact(value):
    """A text that is equal just for values that are equal, kinds and all."""
    return repr(value)


def unchanged(test, call, *values):
    """What the call answers, after a look at whether it left its arguments alone."""
    ahead = [exact(value) for value in copy.deepcopy(values)]
    answer = call(*values)
    test.assertEqual(ahead, [exact(value) for value in values])
    return answer
