"""Deeds by which a program is edited, by their form."""

from movedchecks.kinds import is_address, is_name
from movedchecks.rows import frozen, is_row


def is_deed(thing):
    """Whether thing is a deed, with addresses, names and rows by their form."""
    if not isinstance(thing, tuple) or len(thing) == 0:
        return False
    kind, parts = thing[0], thing[1:]
    if kind == "put":
        return len(parts) == 2 and is_address(parts[0]) and is_row(parts[1])
    if kind == "out":
        return len(parts) == 1 and is_address(parts[0])
    if kind == "move":
        return len(parts) == 2 and is_address(parts[0]) and is_address(parts[1])
    if kind == "name":
        return len(parts) == 2 and is_name(parts[0]) and is_name(parts[1])
    return kind == "keep" and len(parts) == 0


def frozen_deed(deed):
    """The deed with tuples for the lists of its row."""
    if deed[0] == "put":
        return ("put", deed[1], frozen(deed[2]))
    return deed
