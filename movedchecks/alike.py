"""Whether two programs show the same in all runs."""

from movedchecks.broken import first_break
from movedchecks.errors import Unlike
from movedchecks.lags import lag_choices, lags
from movedchecks.playing import play
from movedchecks.results import are_bad
from movedchecks.skeletons import is_comparable, is_whole
from movedchecks.steps import Both

MOST_BAD = 2


def parting(one, other, *, most=2000):
    """Whole choices and bad results with which two programs do not show the same; None if they are alike."""
    if lags(one, other) is None:
        return lag_choices(one, other), []
    told = first_break(Both(one, other), most)
    return None if told is None else told[1:]


def are_alike(one, other, *, most=2000):
    """Whether two programs are alike."""
    return parting(one, other, most=most) is None


class Alikes:
    """Which programs are alike to one; equal programs are compared once."""

    def __init__(self, program, most):
        self._program = program
        self._most = most
        self._known = {}

    def has(self, other):
        """Whether a program is alike to this one; its inputs are the same."""
        # Rows nest too deep for keys of dicts.
        key = repr(other.rows())
        if key not in self._known:
            self._known[key] = are_alike(self._program, other, most=self._most)
        return self._known[key]


def is_parting(one, other, value):
    """Whether any value is a tuple of whole choices and of bad results that part two programs."""
    if not is_comparable(one, other):
        raise Unlike()
    if not isinstance(value, tuple) or len(value) != 2:
        return False
    choices, bad = value
    if not isinstance(choices, list) or not is_whole(one, choices):
        return False
    if not isinstance(bad, list) or len(bad) > MOST_BAD or not are_bad(bad) or bad != sorted(bad):
        return False
    return play(one, choices, bad) != play(other, choices, bad)


def classes(programs, *, most=2000):
    """The list of the lists of the indexes of programs that are alike."""
    found = []
    for index, program in enumerate(programs):
        mine = [part for part in found if _are_in_one_class(programs[part[0]], program, most)]
        if len(mine) > 0:
            mine[0].append(index)
        else:
            found.append([index])
    return found


def _are_in_one_class(one, other, most):
    return is_comparable(one, other) and are_alike(one, other, most=most)
