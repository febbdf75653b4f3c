"""Rows that change places with a neighbour, and first rows that leave their list."""

from movedchecks.errors import NoRow
from movedchecks.programs import MOST_INPUTS, Program
from movedchecks.rows import uses

# Of which kinds the first row of a list can always leave it by itself.
RISING = {"if": ("make", "read"), "once": ("make", "read"), "body": ("make", "check")}


def can_pass(first, second):
    """Whether two plain rows can be exchanged in every program in which they are neighbours."""
    kinds = sorted([first[0], second[0]])
    if kinds == ["check", "check"]:
        return first[1] == second[1]
    if kinds == ["check", "write"]:
        return False
    if kinds == ["read", "write"]:
        # The one that reads ends with its channel, the one that writes has it behind its kind.
        read, write = (first, second) if first[0] == "read" else (second, first)
        return read[2] != write[1]
    if kinds == ["write", "write"]:
        return first[1] != second[1] or tuple(first[2]) == tuple(second[2])
    return True


def _makes_of_checked(first, second):
    """The list of rows that make what two rows check, with unlike words."""
    checked = [row[1] for row in (first, second) if row[0] == "check"]
    return [("make", name, word, ()) for name, word in zip(checked, ("first", "second"))]


def _writes_of_read(first, second):
    """The list of rows that write what one of two rows reads."""
    return [("write", row[2], (row[1],)) for row in (first, second) if row[0] == "read"]


def _different(names):
    return list({name: True for name in names})


def barrier(first, second):
    """Two Programs, equal but for these two rows, and their parting; None if the rows can always be exchanged."""
    if can_pass(first, second):
        return None
    ahead, behind = _makes_of_checked(first, second), _writes_of_read(first, second)
    made = [row[1] for row in ahead]
    given = [name for name in _different(uses(first) + uses(second)) if name not in made]
    # The names of first are inputs, and so is the first further one of second: two writes are told apart by it.
    inputs, missing = given[:MOST_INPUTS], given[MOST_INPUTS:]
    choices = []
    if len(missing) > 0:
        # One row makes all names for which there is no input left.
        ahead = [("if", (), (), [(name, inputs[0], inputs[0]) for name in missing])]
        choices = ["no"]
    bad = sorted([("made", row[2], ()) for row in ahead if row[0] == "make"])
    one = Program(inputs, ahead + [first, second] + behind)
    other = Program(inputs, ahead + [second, first] + behind)
    return one, other, choices, bad


def exchanged(program, address):
    """The Program in which a plain row and the plain row behind it have changed places."""
    program.plain_row_at(address)
    road, index = address[:-1], address[-1]
    if not program.has_plain_row(road + (index + 1,)):
        raise NoRow(address)
    return program.moved(address, road + (index + 2,))


def list_of_first(program, address):
    """Of which list the row at an address is the first one: "if", "once" or "body"; None if it is the first of none."""
    if len(address) == 1 or address[-1] != 0:
        return None
    if program.row_at(address[:-2])[0] == "if":
        return "if"
    return "body" if address[-2] == 1 else "once"


def out_of_list(program, address):
    """The Program in which a first row has left its list: a body for the end of once, all else for the gap ahead."""
    owner = address[:-2]
    if list_of_first(program, address) == "body":
        return program.moved(address, owner + (0, len(program.row_at(owner)[1])))
    return program.moved(address, owner)


def has_twin(program, address):
    """Whether the other list of an if begins with a row equal to this first one."""
    owner = program.row_at(address[:-2])
    return owner[2 - address[-2]][:1] == (program.row_at(address),)


def out_of_both(program, address):
    """The Program in which the equal first rows of both lists of an if have left them, for one ahead of the if."""
    owner = address[:-2]
    gone = {owner + (0, 0): True, owner + (1, 0): True}
    return program.rearranged(gone, {owner: [program.row_at(address)]})


def risen(program, address):
    """The Program, alike to this one, in which a first row has left its list."""
    row = program.plain_row_at(address)
    place = list_of_first(program, address)
    if row[0] in RISING.get(place, ()):
        return out_of_list(program, address)
    if place == "if" and has_twin(program, address):
        return out_of_both(program, address)
    raise NoRow(address)
