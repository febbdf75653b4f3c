"""All stands of a thing."""

from movedchecks.errors import TooMany
from movedchecks.skeletons import words_at
from movedchecks.stands import BROKEN, DONE
from movedchecks.steps import Both, Steps


class Followed:
    """The stands of a thing that come from the beginning, found by how many words lead to them."""

    def __init__(self, both, thing, most):
        self._steps = Steps(both, thing)
        self._most = most
        self._before = {}
        # For each fork and word the first step along them by which the thing breaks: no other needs fewer words.
        self._breaks = {}
        waiting = self._steps.beginning()
        for stand in waiting:
            self._note(stand, None)
        while len(waiting) > 0:
            waiting = [new for elder in waiting for word in words_at(elder[0]) for new in self._new(elder, word)]

    def _note(self, stand, step):
        self._before[stand] = step
        if len(self._before) > self._most:
            raise TooMany(self._most)

    def _new(self, elder, word):
        """The list of the stands that come behind one with a word and have not come before."""
        found = []
        for outcome, numbers in self._steps.outcomes(elder, word):
            if outcome == BROKEN:
                self._breaks.setdefault((elder[0], word), (elder, word, numbers))
            elif outcome != DONE and outcome not in self._before:
                self._note(outcome, (elder, word, numbers))
                found.append(outcome)
        return found

    def stands(self):
        """The ascending list of all stands."""
        return [self._steps.told(stand) for stand in sorted(self._before)]

    def breaks(self):
        """The list of roads by which the thing breaks: lists of tuples (fork, word, numbers of the marks)."""
        return [self._road_with(step) for step in self._breaks.values()]

    def _road_with(self, step):
        road = []
        while step is not None:
            elder, word, numbers = step
            road.append((elder[0], word, numbers))
            step = self._before[elder]
        return road[::-1]


def stands(one, other, thing, *, most=2000):
    """The ascending list of all stands of a thing that come from the beginning by words."""
    return Followed(Both(one, other), thing, most).stands()
