"""Where a single plain row may stand."""

from movedchecks.alike import Alikes, parting


def reach(program, address):
    """The ascending list of the gaps to which the plain row at an address can be moved."""
    return program.reach(address)


def places(program, address, *, most=2000):
    """The ascending list of the gaps at which the plain row at an address can stand, so that nothing else is seen."""
    alikes = Alikes(program, most)
    return [gap for gap in program.reach(address) if alikes.has(program.moved(address, gap))]


def earliest(program, address, *, most=2000):
    """The first of the gaps at which the plain row at an address can stand."""
    alikes, gaps, index = Alikes(program, most), program.reach(address), 0
    # The gap ahead of the row itself is one of them: one is found.
    while not alikes.has(program.moved(address, gaps[index])):
        index += 1
    return gaps[index]


def place_parting(program, address, gap, *, most=2000):
    """A parting of the program and the one in which a plain row has moved to a gap; None if they are alike."""
    program.plain_row_at(address)
    return parting(program, program.moved(address, gap), most=most)
