"""What comes behind a stand with a word of its fork."""

from movedchecks.errors import NoLags, NoWord
from movedchecks.lags import lags, written_channels
from movedchecks.marks import moment
from movedchecks.skeletons import START, may_choose, words_at
from movedchecks.stands import (
    BROKEN, DONE, Watch, holds_of, names_at, seen_of_checks, seen_of_write, truth_at
)

LATER = "later"
GONE = "gone"


def _grown(counts, written):
    """The dict of how often channels were written, behind further writes."""
    return {channel: counts[channel] + written.count(channel) for channel in counts}


class Way:
    """The ways of two programs from a fork to the next one, and how often both have written ahead and behind."""

    def __init__(self, one, other, fork, word, ahead):
        self.to = one.roads().behind(fork, word)
        self.at_end = len(words_at(self.to)) == 0
        self.deeds = (one.roads().done(fork, word), other.roads().done(fork, word))
        self.ahead = ahead
        self.behind = (
            _grown(ahead[0], one.roads().written(fork, word)),
            _grown(ahead[1], other.roads().written(fork, word)),
        )

    def written_ahead(self, channel):
        """How often both had written a channel ahead of this way; perhaps no row writes it."""
        return self.ahead[0].get(channel, 0), self.ahead[1].get(channel, 0)

    def written_behind(self, channel):
        """How often both have written a channel behind this way."""
        return self.behind[0].get(channel, 0), self.behind[1].get(channel, 0)

    def moment_behind(self, channel, number):
        """The moment behind this way of a mark of a channel with a number."""
        mine, theirs = self.written_behind(channel)
        return moment(number, mine, theirs)


class Both:
    """Two programs that are compared and whose lags stand, side by side."""

    def __init__(self, one, other):
        self._lags = lags(one, other)
        if self._lags is None:
            raise NoLags()
        self.programs = (one, other)
        self.channels = written_channels(one, other)
        # What is asked for is kept: most is asked for again for each stand and each thing.
        self._names = {}
        self._ways = {}

    def _ahead_of(self, fork):
        # One is taken as if it had written nothing so far.
        mine = {channel: 0 for channel in self.channels}
        return mine, {channel: -self.lag(fork, channel) for channel in self.channels}

    def forks(self):
        """The ascending list of the forks that some choices come to."""
        return list(self._lags)

    def has(self, fork):
        """Whether any value is a fork that some choices come to."""
        return self.programs[0].roads().has(fork)

    def lag(self, fork, channel):
        """How many more writes of a channel one has done than other at a fork."""
        return self._lags[fork].get(channel, 0)

    def names(self, side, fork):
        """The tuple of the names in sight at a fork that are made by rows of one of the programs."""
        if (side, fork) not in self._names:
            self._names[(side, fork)] = tuple(names_at(self.programs[side], fork))
        return self._names[(side, fork)]

    def way(self, fork, word):
        """The Way from a fork with a word."""
        if (fork, word) not in self._ways:
            self._ways[(fork, word)] = Way(self.programs[0], self.programs[1], fork, word, self._ahead_of(fork))
        return self._ways[(fork, word)]


def _is_free(number, mark, marks, numbers):
    """Whether a mark can have a number beside the first marks, which have these numbers."""
    return not any([elder[1] == mark[1] and taken == number for elder, taken in zip(marks, numbers)])


def _numberings(marks, choices):
    """The list of the tuples of numbers of marks, None for those without one, where each mark has its choices."""
    found = [()]
    for mark, numbers in zip(marks, choices):
        found = [
            begun + (number,)
            for begun in found
            for number in numbers
            if number is None or _is_free(number, mark, marks, begun)
        ]
    return found


class Steps:
    """The stands of a thing; in those told and taken here the numbers of parts stand for these, see Watch."""

    def __init__(self, both, thing):
        self._both = both
        self._watch = Watch(thing)
        self._thing = thing
        self._inputs = [self._watch.inputs_of(program) for program in both.programs]
        # Many stands have the same moments, or the same names on one side: what comes of these is kept.
        self._cases = {}
        self._sides = {}

    def beginning(self):
        """The ascending list of the stands at the beginning."""
        cases = _numberings(self._watch.marks, [(None, 0) for _ in self._watch.marks])
        moments = [tuple([LATER if number is None else "0" for number in numbers]) for numbers in cases]
        return sorted([(START, told, (), (), ()) for told in moments])

    def outcomes(self, stand, word):
        """The list of tuples (outcome, numbers) of all that can come behind a stand with a word.

        An outcome is a stand, or DONE or BROKEN; numbers are those of the marks, as in Watch.
        """
        fork, moments, holds, others, seen = stand
        way = self._both.way(fork, word)
        found = []
        for numbers, told in self._cases_of(fork, word, moments):
            mine = self._side(0, fork, word, holds, numbers)
            theirs = self._side(1, fork, word, others, numbers)
            for after in self._seen_behind(way, seen, mine, theirs):
                following = (way.to, told, mine[0], theirs[0], after)
                found.append((after if after in (DONE, BROKEN) else following, numbers))
        return found

    def _cases_of(self, fork, word, moments):
        """The list of tuples (numbers, moments behind) of all numbers that marks with these moments can have."""
        key = (fork, word, moments)
        if key not in self._cases:
            way = self._both.way(fork, word)
            cases = self._numberings_on(way, moments)
            self._cases[key] = [(numbers, self._moments_behind(way, moments, numbers)) for numbers in cases]
        return self._cases[key]

    def _numberings_on(self, way, moments):
        choices = []
        for mark, told in zip(self._watch.marks, moments):
            if told == LATER:
                ahead, behind = way.written_ahead(mark[1]), way.written_behind(mark[1])
                choices.append([None] + list(range(max(ahead) + 1, max(behind) + 1)))
            else:
                choices.append([None if told == GONE else int(told)])
        return _numberings(self._watch.marks, choices)

    def _side(self, side, fork, word, holds, numbers):
        """The tuple of what is held behind a way, of the first check and of the truths of the writes on it."""
        key = (side, fork, word, holds, numbers)
        if key not in self._sides:
            way = self._both.way(fork, word)
            held = dict(holds)
            held.update(self._inputs[side])
            counts = dict(way.ahead[side])
            first, truths = self._watch.do(way.deeds[side], held, counts, self._watch.read_at(numbers))
            self._sides[key] = (holds_of(self._both.names(side, way.to), held), first, truths)
        return self._sides[key]

    def _moments_behind(self, way, moments, numbers):
        return tuple([
            told if number is None else way.moment_behind(mark[1], number)
            for mark, told, number in zip(self._watch.marks, moments, numbers)
        ])

    def _seen_behind(self, way, seen, mine, theirs):
        """The list of all that can be seen behind a way, DONE and BROKEN too."""
        if self._thing[0] == "write":
            return self._writes_behind(way, seen, (mine[2], theirs[2]))
        firsts = [mine[1], theirs[1]]
        if seen != ():
            # What this side checked first it did when it had written what the other one has, and what that one owes.
            side, owed = seen[0], dict(seen[-1])
            written = way.ahead[1 - side]
            index = 0 if self._thing[0] == "check" else seen[1]
            firsts[side] = (index, tuple([written[channel] + owed.get(channel, 0) for channel in written]))
        return [seen_of_checks(self._thing[0], firsts, way.behind, way.at_end)]

    def _writes_behind(self, way, seen, truths):
        ahead, behind = way.written_ahead(self._thing[1]), way.written_behind(self._thing[1])
        if seen != ():
            side, owed, truth = seen
            number = ahead[1 - side] + owed - 1
            told = truth_at(truths[1 - side], owed - 1)
            pair = (truth, told) if side == 0 else (told, truth)
            return [seen_of_write(number, pair, behind, way.at_end)]
        found = [()]
        for number in range(max(ahead), max(behind)):
            pair = (truth_at(truths[0], number - ahead[0]), truth_at(truths[1], number - ahead[1]))
            found.append(seen_of_write(number, pair, behind, way.at_end))
        return found

    def told(self, stand):
        """A stand with its parts for their numbers."""
        fork, moments, holds, others, seen = stand
        return fork, moments, self._watch.told(holds), self._watch.told(others), seen

    def known(self, stand):
        """A stand with the numbers of its parts for these."""
        fork, moments, holds, others, seen = stand
        return fork, moments, self._known_holds(holds), self._known_holds(others), seen

    def _known_holds(self, holds):
        return tuple([(name, self._watch.index_of(part)) for name, part in holds])


def beginning(one, other, thing):
    """The ascending list of the stands at the beginning."""
    steps = Steps(Both(one, other), thing)
    return [steps.told(stand) for stand in steps.beginning()]


def behind(one, other, thing, stand, word):
    """The tuple of the ascending list of the stands behind a stand with a word, and of whether it can be broken."""
    steps = Steps(Both(one, other), thing)
    if not may_choose(stand[0], word):
        raise NoWord(word)
    outcomes = [outcome for outcome, _ in steps.outcomes(steps.known(stand), word)]
    found = {outcome: True for outcome in outcomes if outcome not in (DONE, BROKEN)}
    return [steps.told(following) for following in sorted(found)], BROKEN in outcomes
