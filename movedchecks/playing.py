"""Single runs: what is done on the way to a fork, and what is seen at the end."""

from movedchecks.errors import BadChoices, Nothing, NoWord
from movedchecks.results import different, word_of
from movedchecks.skeletons import START, in_sight_at, may_choose, words_at


class Run:
    """A run that goes on word by word, and back."""

    def __init__(self, program, bad=()):
        self._program = program
        self._bad = different(bad)
        self._roads = program.roads()
        self._begin()

    def __eq__(self, other):
        if not isinstance(other, Run):
            return False
        return self._program == other._program and self._bad == other._bad and self._words == other._words

    @property
    def fork(self):
        """The fork at which the run stands, None behind an error."""
        return self._fork

    @property
    def end(self):
        """How the run has ended, None if it has not."""
        if self._fork is None:
            return ("error", word_of(self._told[-1][2]))
        if self._fork[0] == "leave":
            return ("left",)
        return ("done",) if self._fork[0] == "end" else None

    def go(self, word):
        """Goes on along a word, and returns the list of what was done."""
        if self._fork is None or not may_choose(self._fork, word):
            raise NoWord(word)
        already = len(self._told)
        self._words.append(word)
        self._go_along(self._fork, word)
        return self._told[already:]

    def back(self):
        """Takes the last word back and returns it."""
        if len(self._words) == 0:
            raise Nothing()
        *words, last = self._words
        self._begin()
        for word in words:
            self.go(word)
        return last

    def choices(self):
        """The list of the words."""
        return list(self._words)

    def events(self):
        """The list of all that was done."""
        return list(self._told)

    def written(self):
        """The dict from the channels that were written to the lists of what was written to them."""
        return {channel: list(self._writes[channel]) for channel in sorted(self._writes)}

    def results(self):
        """The dict from the names in sight to their results, an empty one behind an error."""
        if self._fork is None:
            return {}
        return {name: self._held[name] for name in in_sight_at(self._program, self._fork)}

    def copied(self):
        """A Run that stands there, too, and goes on by itself."""
        run = Run(self._program, self._bad)
        for word in self.choices():
            run.go(word)
        return run

    def stop(self):
        """The tuple of the address of the check that ended the run and the number of words ahead, or None."""
        return None if self._fork is not None else (self._stop, len(self._words))

    def _begin(self):
        self._words, self._told, self._writes = [], [], {}
        self._held = {name: ("in", name) for name in self._program.inputs}
        self._fork, self._stop = START, None
        self._go_along(START, "")

    def _go_along(self, fork, word):
        for address, deed in self._roads.done(fork, word):
            event = self._do(deed)
            self._told.append(event)
            if event[0] == "check" and event[2] in self._bad:
                self._fork, self._stop = None, address
                return
        self._fork = self._roads.behind(fork, word)

    def _do(self, deed):
        """Does a deed, and returns it with results for names."""
        kind, name = deed[0], deed[1]
        if kind == "write":
            results = self._results_of(deed[2])
            self._writes.setdefault(name, []).append(results)
            return ("write", name, results)
        if kind == "make":
            self._held[name] = ("made", deed[2], self._results_of(deed[3]))
        elif kind == "read":
            self._held[name] = ("seen", deed[2], len(self._writes.get(deed[2], [])))
        elif kind == "join":
            self._held[name] = self._held[deed[2]]
        return (kind, name, self._held[name])

    def _results_of(self, names):
        return tuple([self._held[name] for name in names])


def road_along(program, choices):
    """The tuple of the fork to which choices lead, and of the list of the forks and words on the way."""
    roads = program.roads()
    fork, passed = roads.first_fork(), [(START, "")]
    for at, word in enumerate(choices):
        if not may_choose(fork, word):
            raise BadChoices(at)
        passed.append((fork, word))
        fork = roads.behind(fork, word)
    return fork, passed


def whole_road(program, choices):
    """The list of the forks and words on the way along whole choices."""
    fork, passed = road_along(program, choices)
    if len(words_at(fork)) > 0:
        raise BadChoices(len(choices))
    return passed


def _run_along(program, choices):
    """The Run with nothing bad along choices that lead to a fork."""
    _, passed = road_along(program, choices)
    run = Run(program)
    for _, word in passed[1:]:
        run.go(word)
    return run


def _run_to_the_end(program, choices, bad):
    """The Run with bad results along whole choices, as far as it comes."""
    passed = whole_road(program, choices)
    run = Run(program, bad)
    for _, word in passed[1:]:
        if run.end is None:
            run.go(word)
    return run


def events(program, choices):
    """The list of what is done on the way to the fork to which choices lead."""
    return _run_along(program, choices).events()


def fork_at(program, choices):
    """The fork to which choices lead."""
    return road_along(program, choices)[0]


def results_at(program, choices):
    """The dict from the names in sight at the fork to which choices lead to their results."""
    return _run_along(program, choices).results()


def written_at(program, choices):
    """The dict from the channels that were written on the way to how often they were."""
    written = _run_along(program, choices).written()
    return {channel: len(written[channel]) for channel in written}


def play(program, choices, bad):
    """What is seen of a run: the tuple of the dict of what was written and of its end."""
    run = _run_to_the_end(program, choices, bad)
    return run.written(), run.end


def stops_at(program, choices, bad):
    """The address of the check that ends a run, and how many choices led there; None if none finds a bad result."""
    return _run_to_the_end(program, choices, bad).stop()
