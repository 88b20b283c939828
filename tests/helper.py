"""What several tests use."""


def kinds(value):
    """The value with the kind of each part beside it, so that True and 1, or (1,) and [1], are unlike."""
    if isinstance(value, (tuple, list)):
        return (type(value).__name__, [kinds(part) for part in value])
    return (type(value).__name__, value)


def nested(depth, make=tuple):
    """So many tuples (or lists) inside one another, the innermost one empty."""
    value = make(())
    for _ in range(depth - 1):
        value = make((value,))
    return value


# Values of no special form, to be passed to all that takes "any value".
ODD_VALUES = (
    None, True, False, 0, 1, -1, 10 ** 12, -(10 ** 12), 10 ** 399, -(10 ** 399), "", "a", "tea", "A", "9a", " ", "\n",
    "a" * 2000, "\u00e9", "\u00b2", "\u0660", "\ud800", (), [], (None,), [None], ((),), [[]], ([],), [()], (True, "rate"),
    ([], []), ([1], "free", "tea"), (2, [], "tea"), (2, "free", []), (["pay"], 1), ("pay", [1]), ("pay", 10 ** 399),
    ("order", [], [], []), ("order", (("tea", []),), True, None), ("look", [[], []]), ("look", ((), ())),
    ("purse", ["tea"]), ((1, 1), (1, 1)), (10 ** 399, 10 ** 399), tuple(range(2000)), list(range(2000)),
    nested(30), nested(30, list), ("a", [("b", [None, [True]])]),
)
