"""Where a single plain row may stand."""

from movedchecks.alike import Alikes, parting
from movedchecks.errors import MoveError


def _moved_or_none(program, address, gap):
    """The Program in which the row at an address is at a gap, None if there is none."""
    try:
        return program.moved(address, gap)
    except MoveError:
        return None


def _moves(program, address):
    """The list of tuples (gap, Program) of all moves of the plain row at an address, the gaps ascending."""
    program.plain_row_at(address)
    moves = [(gap, _moved_or_none(program, address, gap)) for gap in program.gaps()]
    return [move for move in moves if move[1] is not None]


def reach(program, address):
    """The ascending list of the gaps to which the plain row at an address can be moved."""
    return [gap for gap, _ in _moves(program, address)]


def places(program, address, *, most=2000):
    """The ascending list of the gaps at which the plain row at an address can stand, so that nothing else is seen."""
    alikes = Alikes(program, most)
    return [gap for gap, moved in _moves(program, address) if alikes.has(moved)]


def earliest(program, address, *, most=2000):
    """The first of the gaps at which the plain row at an address can stand."""
    alikes, found = Alikes(program, most), None
    for gap, moved in _moves(program, address):
        # The gap ahead of the row itself is one of them: one is found.
        if found is None and alikes.has(moved):
            found = gap
    return found


def place_parting(program, address, gap, *, most=2000):
    """A parting of the program and the one in which a plain row has moved to a gap; None if they are alike."""
    program.plain_row_at(address)
    return parting(program, program.moved(address, gap), most=most)
