"""Values that several tests pass where a call accepts any value."""


def nested(shell, depth):
    """Return an empty shell (tuple, list or dict) within shells, nested so deep."""
    value = shell()
    for _ in range(depth - 1):
        value = {"a": value} if shell is dict else shell([value])
    return value


def any_values():
    """Return fresh values of every kind that counts as any value."""
    return [
        None, True, False,
        0, 1, -1, 1000, -1000, 10 ** 5000, -10 ** 5000,
        "", "a", "A", "1", "a b", "abcdefghi", "\u00e9", "\U0001f600", "\ud800", "a\n",
        (), ("a",), ((),), (None,), (1, "a", None, True),
        [], ["a"], [[]],
        {}, {"a": 1}, {1: [], None: {}, ("a", True): ()},
        nested(tuple, 20), nested(list, 20), nested(dict, 20),
    ]
