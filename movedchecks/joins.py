"""Rows that do what was done already: pairs of which one row is enough, and checks that can be left out."""

from movedchecks.alike import Alikes
from movedchecks.errors import NoPair
from movedchecks.programs import Program
from movedchecks.rows import rearranged, renamed


def _are_same(one, other):
    """Whether two rows are makes with the same word and args, or reads of one channel."""
    return one[0] in ("make", "read") and one[:1] + one[2:] == other[:1] + other[2:]


def _is_pair(program, first, second):
    one, other = program.row_at(first), program.row_at(second)
    return _are_same(one, other) and one[1] in program.in_sight(second)


def pairs(program):
    """The ascending list of the tuples of addresses of rows that do the same, the first in sight of the second."""
    addresses = program.addresses()
    return [(first, second) for first in addresses for second in addresses if _is_pair(program, first, second)]


def joined(program, pair):
    """The Program without the second row of a pair, with the name of the first one for that of the second."""
    if not isinstance(pair, tuple) or len(pair) != 2:
        raise NoPair(pair)
    first, second = pair
    if not program.has_row(first) or not program.has_row(second) or not _is_pair(program, first, second):
        raise NoPair(pair)
    names = {program.row_at(second)[1]: program.row_at(first)[1]}
    rows = rearranged(program.rows(), {second: True}, {})
    return Program(program.inputs, [renamed(row, names) for row in rows])


def joinable(program, *, most=2000):
    """The ascending list of the pairs that can be joined, so that nothing else is seen."""
    alikes = Alikes(program, most)
    return [pair for pair in pairs(program) if alikes.has(joined(program, pair))]


def spare(program, *, most=2000):
    """The ascending list of the addresses of the checks of which each can be left out, so that nothing else is seen."""
    alikes = Alikes(program, most)
    checks = [address for address in program.addresses() if program.row_at(address)[0] == "check"]
    return [address for address in checks if alikes.has(program.out(address))]
