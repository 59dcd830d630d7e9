"""Values of all sorts, for arguments that may be any value."""


def nested(value, depth):
    """Return value within so many tuples, lists and dicts, one within another."""
    for level in range(depth):
        value = ((value,), [value], {"in": value})[level % 3]
    return value


def any_values():
    """Return new values of all sorts that may be any value; no two of them are equal and of one sort."""
    return [
        None, True, False, 0, 1, -1, 2, 10 ** 399, -10 ** 399,
        "", "a", "0-1", "((0, 1),)", "two\nlines", "x" * 20000,
        (), (0, 1), ((0, 1),), ((0, True),), ("a", None, ()), (0,) * 4000,
        [], [0, 1], [(0, 1)], [[0, 1]], [None, {}], [[]] * 1000,
        {}, {0: 1}, {(0, 1): (0, 1)}, {"a": [{}, ()], None: {True: False}},
        nested((), 20), nested([], 19), nested({}, 18), nested((0, 1), 1), nested((0, 1), 3),
    ]
