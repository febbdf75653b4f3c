"""Two programs side by side, along one list of words."""

from movedchecks.errors import Nothing, NoWord, Unlike, Wrong
from movedchecks.playing import Run
from movedchecks.programs import Program
from movedchecks.results import are_made
from movedchecks.skeletons import is_comparable, may_choose


def _checked_in(events):
    """The list of tuples (result, counts) of the first checks of made results in what was done."""
    counts, found, known = {}, [], {}
    for kind, name, worth in events:
        if kind == "write":
            counts[name] = counts.get(name, 0) + 1
        elif kind == "check" and worth[0] == "made":
            # Results nest too deep for keys of dicts.
            key = repr(worth)
            if key not in known:
                known[key] = True
                found.append((worth, tuple([(channel, counts[channel]) for channel in sorted(counts)])))
    return found


class Sides:
    """Two programs that are compared and go on word by word, and back."""

    def __init__(self, one, other, bad=()):
        if not isinstance(one, Program):
            raise Wrong(0)
        if not isinstance(other, Program):
            raise Wrong(1)
        if not are_made(bad):
            raise Wrong(2)
        if not is_comparable(one, other):
            raise Unlike()
        self._programs = (one, other)
        self._bad = tuple(bad)
        self._runs = [Run(one, bad), Run(other, bad)]
        self._words = []
        # Programs that are compared have the same forks; words lead on also where a run has ended by an error.
        self._forks = [one.roads().first_fork()]

    def __eq__(self, other):
        return isinstance(other, Sides) and self._runs == other._runs and self._words == other._words

    def __len__(self):
        return len(self._words)

    def go(self, word):
        """Goes on to the next fork in both programs; one that has ended by an error does nothing more."""
        fork = self._forks[-1]
        going = [run for run in self._runs if run.fork is not None]
        if len(going) == 0 or not may_choose(fork, word):
            raise NoWord(word)
        for run in going:
            run.go(word)
        self._words.append(word)
        self._forks.append(self._programs[0].roads().behind(fork, word))

    def back(self):
        """Takes the last word back and returns it."""
        if len(self._words) == 0:
            raise Nothing()
        for run in self._runs:
            # One that had ended by an error ahead of this word has not gone along it.
            if len(run.choices()) == len(self._words):
                run.back()
        self._forks.pop()
        return self._words.pop()

    def at_fork(self):
        """The fork to which the words lead."""
        return self._forks[-1]

    def choices(self):
        """The list of the words."""
        return list(self._words)

    def seen(self):
        """The tuple of what is seen of both programs so far: tuples (written, end)."""
        return tuple([(run.written(), run.end) for run in self._runs])

    def lag(self, channel):
        """How many more writes of a channel one has done than other."""
        mine, theirs = [len(run.written().get(channel, [])) for run in self._runs]
        return mine - theirs

    def checked(self, side):
        """The list of the made results that one of the programs has checked, each with the writes ahead."""
        return _checked_in(self._runs[side].events())

    def is_parted(self):
        """Whether both have ended, and not the same is seen."""
        mine, theirs = self.seen()
        return mine[1] is not None and theirs[1] is not None and mine != theirs

    def copied(self):
        """A Sides that stands there, too, and goes on by itself."""
        sides = Sides(self._programs[0], self._programs[1], self._bad)
        for word in self.choices():
            sides.go(word)
        return sides
