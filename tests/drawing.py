"""Random deeds, results and other things of which texts are shown."""

from tests import model
from tests.makers import Dense

NAMES = ("a", "b", "x", "abcdefgh", "if", "else", "join", "keep")


def drawn_row(chance, depth=3):
    """A row by its form, whatever is in sight; lists are tuples by chance."""
    def several(call, most):
        found = [call() for _ in range(chance.randint(0, most))]
        return chance.choice((list, tuple))(found)

    def name():
        return chance.choice(NAMES)

    kind = chance.choice(("make", "read", "check", "write", "leave") + (("if", "loop") if depth else ()))
    if kind == "make":
        return ("make", name(), name(), several(name, 3))
    if kind == "read":
        return ("read", name(), name())
    if kind == "check":
        return ("check", name())
    if kind == "write":
        return ("write", name(), several(name, 3))
    if kind == "leave":
        return ("leave",)
    lists = [several(lambda: drawn_row(chance, depth - 1), 2) for _ in range(2)]
    return (kind, *lists, several(lambda: (name(), name(), name()), 2)) if kind == "if" else (kind, *lists)


def drawn_result(chance, depth=3):
    kind = chance.choice(("in", "seen", "made", "made") if depth else ("in", "seen"))
    if kind == "in":
        return ("in", chance.choice(NAMES))
    if kind == "seen":
        return ("seen", chance.choice(NAMES), chance.choice((0, 1, 9, 10, 10 ** 39, 10 ** 40 - 1)))
    return ("made", chance.choice(NAMES), tuple([drawn_result(chance, depth - 1) for _ in range(chance.randint(0, 3))]))


def drawn_address(chance):
    return tuple([chance.choice((0, 0, 1, 2, 10, 10 ** 39)) for _ in range(chance.choice((1, 1, 3, 5)))])


def drawn_form(chance):
    """A deed by its form, wherever it leads."""
    kind = chance.choice(("put", "out", "move", "name", "keep"))
    if kind == "put":
        return ("put", drawn_address(chance), drawn_row(chance))
    if kind == "out":
        return ("out", drawn_address(chance))
    if kind == "move":
        return ("move", drawn_address(chance), drawn_address(chance))
    return ("name", chance.choice(NAMES), chance.choice(NAMES)) if kind == "name" else ("keep",)


def drawn_deed(chance, program):
    """A deed that may be done to a program, or may not."""
    kind = chance.choice(("put", "put", "out", "move", "move", "move", "name", "keep"))
    gap, address = chance.choice(program.gaps()), chance.choice(program.addresses() or [(0,)])
    names = program.names() + list(program.inputs)
    if kind == "put":
        seen = chance.sample(program.in_sight(gap), min(len(program.in_sight(gap)), 1))
        row = chance.choice([("check", seen[0] if seen else "a"), ("write", "c", seen), ("make", "new", "f", seen), ("if", [], (), []),
                             ("loop", (), [("leave",)]), drawn_row(chance, 1)])
        return ("put", gap, row)
    if kind == "out":
        return ("out", address)
    if kind == "move":
        return ("move", address, gap)
    if kind == "name":
        return ("name", chance.choice(names + ["nobody"]), chance.choice(names + ["other", "more", "again"]))
    return ("keep",)


def drawn_program(seed, rows=12):
    return model.Maker(seed).program() if seed % 2 else Dense(seed).dense(rows)
