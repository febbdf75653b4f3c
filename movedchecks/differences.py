"""In what two programs are unlike along the same choices."""

from movedchecks.errors import Unlike
from movedchecks.playing import road_along, whole_road
from movedchecks.results import word_of
from movedchecks.skeletons import is_comparable


class Numbering:
    """Numbers for results, which nest too deep for keys of dicts: equal results have the same one."""

    def __init__(self):
        self._numbers = {}
        self._results = []

    def of_plain(self, result):
        """The number of an input or a reading."""
        return self._of(result, result)

    def of_made(self, word, numbers):
        """The number of what is made of the results with these numbers."""
        key = ("made", word) + numbers
        if key in self._numbers:
            return self._numbers[key]
        return self._of(key, ("made", word, self.results(numbers)))

    def _of(self, key, result):
        if key not in self._numbers:
            self._numbers[key] = len(self._results)
            self._results.append(result)
        return self._numbers[key]

    def result(self, number):
        """The result with a number."""
        return self._results[number]

    def results(self, numbers):
        """The tuple of the results with these numbers."""
        return tuple([self._results[number] for number in numbers])


class Record:
    """What a run with nothing bad writes, and what it checks first, along a list of forks and words."""

    def __init__(self, program, passed, numbering):
        self._numbering = numbering
        self._held = {name: numbering.of_plain(("in", name)) for name in program.inputs}
        self._writes = {}
        # The counts ahead of the first check of each checked result that is made, in the order of these checks.
        self._checks = {}
        self._counts = ()
        roads = program.roads()
        for fork, word in passed:
            for _, deed in roads.done(fork, word):
                self._do(deed)

    def _do(self, deed):
        kind, name = deed[0], deed[1]
        if kind == "check":
            self._check(self._held[name])
        elif kind == "write":
            self._write(name, deed[2])
        elif kind == "join":
            self._held[name] = self._held[deed[2]]
        elif kind == "read":
            self._held[name] = self._numbering.of_plain(("seen", deed[2], len(self._writes.get(deed[2], ()))))
        else:
            self._held[name] = self._numbering.of_made(deed[2], self._numbers_of(deed[3]))

    def _numbers_of(self, names):
        return tuple([self._held[name] for name in names])

    def _check(self, number):
        if number not in self._checks and word_of(self._numbering.result(number)) is not None:
            self._checks[number] = self._counts

    def _write(self, channel, names):
        self._writes.setdefault(channel, []).append(self._numbering.results(self._numbers_of(names)))
        self._counts = tuple([(written, len(self._writes[written])) for written in sorted(self._writes)])

    def written(self):
        """The dict from the channels to the lists of what was written to them."""
        return {channel: list(self._writes[channel]) for channel in sorted(self._writes)}

    def checked(self):
        """The dict from the numbers of the results that are checked to how often channels were written before."""
        return {number: self._checks[number] for number in self._checks}

    def first_checks(self):
        """The list of the tuples of a result that is checked and of how often channels were written before."""
        return [(self._numbering.result(number), self._checks[number]) for number in self._checks]

    def lots(self):
        """The first checks, those put together that can change places."""
        lots = []
        for result, counts in self.first_checks():
            if len(lots) == 0 or lots[-1][:2] != (counts, word_of(result)):
                lots.append((counts, word_of(result), []))
            lots[-1][2].append(result)
        return [(counts, word, sorted(results)) for counts, word, results in lots]

    def form(self):
        """The tuple of what is written and of the lots of first checks."""
        return self.written(), self.lots()


class Comparison:
    """Two programs that are compared, along the same whole choices."""

    def __init__(self, one, other, choices):
        if not is_comparable(one, other):
            raise Unlike()
        # Programs with one skeleton have the same forks.
        passed = whole_road(one, choices)
        self._numbering = Numbering()
        self._mine = Record(one, passed, self._numbering)
        self._theirs = Record(other, passed, self._numbering)

    def is_same(self):
        """Whether nothing is unlike: if so, the normal forms are equal."""
        return self._mine.form() == self._theirs.form()

    def writes(self):
        """The list of the unlike writes, by channels."""
        mine, theirs = self._mine.written(), self._theirs.written()
        found = []
        for channel in sorted(set(list(mine) + list(theirs))):
            number = _first_unlike(mine.get(channel, []), theirs.get(channel, []))
            if number is not None:
                found.append(("write", channel, number))
        return found

    def checks(self):
        """The list of the unlike checks."""
        here, there = self._mine.checked(), self._theirs.checked()
        found = [number for number in here if number not in there or here[number] != there[number]]
        found.extend([number for number in there if number not in here])
        return [("check", self._numbering.result(number)) for number in found]

    def orders(self):
        """The list of the unlike orders of two checks."""
        places = {number: place for place, number in enumerate(self._theirs.checked())}
        shared = [(self._numbering.result(number), number) for number in self._mine.checked() if number in places]
        return [
            ("order", min(first[0], second[0]), max(first[0], second[0]))
            for index, first in enumerate(shared)
            for second in shared[index + 1:]
            if places[first[1]] > places[second[1]] and word_of(first[0]) != word_of(second[0])
        ]


def _first_unlike(some, others):
    """The least index at which two lists are unlike, or at which one of them ends; None if they are equal."""
    for index, (part, other) in enumerate(zip(some, others)):
        if part != other:
            return index
    return None if len(some) == len(others) else min(len(some), len(others))


def first_checks(program, choices):
    """The list of the made results that are checked, each with how often channels were written before."""
    return Record(program, road_along(program, choices)[1], Numbering()).first_checks()


def normal_form(program, choices):
    """The tuple of what a run writes and of its first checks, those put together that can change places."""
    return Record(program, whole_road(program, choices), Numbering()).form()


def differences(one, other, choices):
    """The ascending list of what is unlike in the runs of two programs along whole choices."""
    both = Comparison(one, other, choices)
    return sorted(both.checks() + both.orders() + both.writes())


def is_same(one, other, choices):
    """Whether nothing is unlike in the two runs."""
    return Comparison(one, other, choices).is_same()


def least_bad(one, other, choices):
    """The bad results, as few as possible, with which something unlike is seen; None if nothing ever is."""
    both = Comparison(one, other, choices)
    if both.is_same():
        return None
    # Unlike writes are seen with nothing bad; an unlike check only with its result, an unlike order with both.
    if len(both.writes()) > 0:
        return []
    return list(min(both.checks() + both.orders())[1:])
