"""Moves that are done together, and which of them fit together."""

from movedchecks.alike import Alikes, parting
from movedchecks.errors import BadDeeds, MoveError

MOST_DEEDS = 4


def _is_deed(program, thing):
    if not isinstance(thing, tuple) or len(thing) < 2 or not program.has_plain_row(thing[1]):
        return False
    if thing[0] == "out":
        return len(thing) == 2 and program.row_at(thing[1])[0] == "check"
    return thing[0] == "move" and len(thing) == 3 and program.has_gap(thing[2])


def _are_deeds(program, thing):
    if not isinstance(thing, list) or len(thing) > MOST_DEEDS:
        return False
    if not all([_is_deed(program, deed) for deed in thing]):
        return False
    return len(set([deed[1] for deed in thing])) == len(thing)


def done(program, deeds):
    """The Program with all deeds done at once."""
    if not _are_deeds(program, deeds):
        raise BadDeeds()
    gone, coming = {}, {}
    for deed in deeds:
        gone[deed[1]] = True
        if deed[0] == "move":
            coming.setdefault(deed[2], []).append(program.row_at(deed[1]))
    return program.rearranged(gone, coming)


def _done_of(program, deeds, lot):
    """The Program with the deeds of a lot done."""
    return done(program, [deeds[index] for index in lot])


def _all_lots(many):
    """The ascending list of all ascending lists of indexes of so many deeds."""
    lots = [[]]
    for index in range(many):
        lots = lots + [lot + [index] for lot in lots]
    return sorted(lots)


def _is_right(program, deeds, lot, alikes):
    try:
        other = _done_of(program, deeds, lot)
    except MoveError:
        return False
    return alikes.has(other)


def _is_part(lot, other):
    """Whether a lot is another one, or a part of it."""
    return all([index in other for index in lot])


def right_lots(program, deeds, *, most=2000):
    """The ascending list of the lots that lead to a program that is alike."""
    alikes = Alikes(program, most)
    return [lot for lot in _all_lots(len(deeds)) if _is_right(program, deeds, lot, alikes)]


def greatest_lots(program, deeds, *, most=2000):
    """The ascending list of the right lots that are no part of another one."""
    right = right_lots(program, deeds, most=most)
    return [lot for lot in right if not any([lot != other and _is_part(lot, other) for other in right])]


def lot_parting(program, deeds, lot, *, most=2000):
    """A parting of the program and the one behind a lot; None if they are alike."""
    return parting(program, _done_of(program, deeds, lot), most=most)


def barring(program, deeds, *, most=2000):
    """The ascending list of the tuples of two deeds that are right alone, but not together."""
    right = right_lots(program, deeds, most=most)
    alone = [lot[0] for lot in right if len(lot) == 1]
    return [(low, high) for low in alone for high in alone if low < high and [low, high] not in right]


def needing(program, deeds, *, most=2000):
    """The ascending list of the right lots of two or more of which no lesser part is right but the empty one."""
    right = [lot for lot in right_lots(program, deeds, most=most) if len(lot) > 0]
    return [
        lot for lot in right
        if len(lot) > 1 and not any([lot != other and _is_part(other, lot) for other in right])
    ]
