"""Values of all kinds, for what accepts any value."""


def nested(value, times):
    for k in range(times):
        value = [value] if k % 2 else (value,)
    return value


def any_values():
    """A new list of values of all kinds; none of them is a fork, a gap or a row of the tests' programs."""
    return [
        None, True, False, 0, 1, -1, 10 ** 30, "", "a", "abcdefghi", "Yes", "a b", " ", "yes ", "\n", [], [0], [[]],
        (), (True,), (False,), (-1,), (0, 0), (None,), ("0",), ([0],), ((0,),), (0, 0, True), (10 ** 9,), {}, {0: 0},
        {"a": [1]}, [True], ["yes", 1], ["yes", None], ["yes", ["no"]], ("made",), ("if",), ("if", ()), ("if", [0]),
        ("if", (False,)), ("first", (False,)), ("if", (0, [])), (["if"], (0,)), ["if", (0,)], ("start",),
        ("start", (), ()), ("start", []), ("end", (0,)), ("again", (True,)), ("check", 1), ("check", ["x"]),
        ("leave", ()), ["leave"], ("make", "x", "f"), ("make", "x", "f", "a"), ("make", "x", "f", {}),
        nested("a", 39), nested((), 39), [None] * 19000, "x" * 300,
    ]
