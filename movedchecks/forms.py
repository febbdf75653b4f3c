"""Stands by their form."""

from movedchecks.kinds import is_integer
from movedchecks.stands import Watch
from movedchecks.steps import GONE, LATER, Both


def _is_side(value):
    return is_integer(value) and value in (0, 1)


def _is_positive(value):
    return is_integer(value) and value > 0


def _are_pairs(value, names):
    """Whether a value is a tuple of pairs of which each begins with another one of these names, ascending."""
    if not isinstance(value, tuple) or not all([isinstance(pair, tuple) and len(pair) == 2 for pair in value]):
        return False
    firsts = [pair[0] for pair in value]
    return all([name in names for name in firsts]) and firsts == sorted(set(firsts))


class Forms:
    """The form of the stands of a thing."""

    def __init__(self, both, thing):
        self._both = both
        self._kind = thing[0]
        self._watch = Watch(thing)

    def has(self, value):
        """Whether any value is a stand by its form."""
        if not isinstance(value, tuple) or len(value) != 5 or not self._both.has(value[0]):
            return False
        fork, moments, holds, others, seen = value
        if not self._are_moments(fork, moments) or not self._is_seen(seen):
            return False
        return self._are_holds(0, fork, holds) and self._are_holds(1, fork, others)

    def _are_moments(self, fork, value):
        marks = self._watch.marks
        if not isinstance(value, tuple) or len(value) != len(marks):
            return False
        numbered = []
        for mark, told in zip(marks, value):
            if told not in (LATER, GONE):
                if told not in self._digits(fork, mark[1]) or (mark[1], told) in numbered:
                    return False
                numbered.append((mark[1], told))
        return True

    def _digits(self, fork, channel):
        lag = self._both.lag(fork, channel)
        return [str(number) for number in range(min(0, -lag), max(0, -lag) + 1)]

    def _are_holds(self, side, fork, value):
        if not _are_pairs(value, self._both.names(side, fork)):
            return False
        return all([self._watch.index_of(part) is not None for _, part in value])

    def _is_seen(self, value):
        if not isinstance(value, tuple):
            return False
        if len(value) == 0:
            return True
        if self._kind == "check":
            return len(value) == 2 and _is_side(value[0]) and self._is_owed(value[1])
        if len(value) != 3 or not _is_side(value[0]):
            return False
        if self._kind == "order":
            return _is_side(value[1]) and self._is_owed(value[2])
        return _is_positive(value[1]) and isinstance(value[2], bool)

    def _is_owed(self, value):
        return _are_pairs(value, self._both.channels) and all([_is_positive(many) for _, many in value])


def is_stand(one, other, thing, value):
    """Whether any value is a stand of a thing by its form."""
    return Forms(Both(one, other), thing).has(value)
